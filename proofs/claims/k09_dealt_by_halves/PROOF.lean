import PyProof.Rows.All
import Wide.All
import OpenK.AllK
import Wide.FinOn
import Lean
import PyProof.EqAt
import PyProof.EqKinds
import PyProof.TupleCall
import PyProof.Rows.EqDataRows
import PyProof.NeData
import OpenK.KOwn
import PyProof.InstStoreFacts
import KE.RegKIsAll
import PyProof.StationsW
import PyProof.PassesOwn
import KE.KRevIter
import PyProof.ListRange
import PySem.Challenge.RW_bankshare_k09_dealt_by_halves

set_option Elab.async false
set_option linter.all false
set_option maxRecDepth 100000
/-! THE HAND LAYER, for ints, bools, texts, own classes, LISTS and tuples (index, slices, in, append, pop ..), calls, loops. Paste it whole ahead of your own text; what your proof does not reach may be deleted. -/
namespace L2
open PySem PySem.Spec PyProof.Rows

/-- a key: an int or a str -/
abbrev Key := Sum Int Str
def keyIs : Key → Value → Bool
  | .inl k, v => Value.isInt k v
  | .inr x, v => Value.isStrOf x v
def keyH (w : World) : Key → Int
  | .inl k => hashInt k
  | .inr x => hashStr w x
theorem keyIs_shape : ∀ {k : Key} {v : Value}, keyIs k v = true → (∃ i t, k = Sum.inl i ∧ v = Value.int i t) ∨ (∃ x t, k = Sum.inr x ∧ v = Value.str x t)
  | .inl i, v, h => by
    obtain ⟨t, e⟩ := Value.isInt_shape (k := i) (v := v) h
    exact .inl ⟨i, t, rfl, e⟩
  | .inr x, v, h => by
    obtain ⟨t, e⟩ := Value.isStrOf_shape (x := x) (v := v) h
    exact .inr ⟨x, t, rfl, e⟩
theorem key_ll (a b : Int) : decide ((Sum.inl a : Key) = Sum.inl b) = (a == b) := by
  by_cases e : a = b
  · subst e; simp
  · have h : ¬ (Sum.inl a : Key) = Sum.inl b := fun q => e (Sum.inl.inj q)
    rw [decide_eq_false h]
    exact (beq_eq_false_iff_ne.mpr e).symm
theorem key_rr (a b : Str) : decide ((Sum.inr a : Key) = Sum.inr b) = decide (a = b) := by
  by_cases e : a = b
  · subst e; simp
  · have h : ¬ (Sum.inr a : Key) = Sum.inr b := fun q => e (Sum.inr.inj q)
    rw [decide_eq_false h, decide_eq_false e]
theorem key_lr (a : Int) (b : Str) : decide ((Sum.inl a : Key) = Sum.inr b) = false := decide_eq_false (fun q => nomatch q)
theorem key_rl (a : Str) (b : Int) : decide ((Sum.inr a : Key) = Sum.inl b) = false := decide_eq_false (fun q => nomatch q)

def mixKind (prog : Program) (w : World) : PySem.KeyKind prog w Key where
  is := keyIs
  hash := keyH w
  inj := fun v a b ha hb => by
    rcases keyIs_shape ha with ⟨i, t, rfl, rfl⟩ | ⟨x, t, rfl, rfl⟩
    · rcases keyIs_shape hb with ⟨j, u, rfl, e⟩ | ⟨y, u, rfl, e⟩
      · injection e with e1 _; rw [e1]
      · exact nomatch e
    · rcases keyIs_shape hb with ⟨j, u, rfl, e⟩ | ⟨y, u, rfl, e⟩
      · exact nomatch e
      · injection e with e1 _; rw [e1]
  byValue := fun k v h => by
    rcases keyIs_shape h with ⟨i, t, rfl, rfl⟩ | ⟨x, t, rfl, rfl⟩ <;> rfl
  pyHash := fun hv h => by
    rcases keyIs_shape hv with ⟨i, t, rfl, rfl⟩ | ⟨x, t, rfl, rfl⟩
    · exact wpAny_pyHash_int h
    · exact wpAny_pyHash_str h
  eqBool := fun hu hv h => by
    rcases keyIs_shape hu with ⟨i, t, rfl, rfl⟩ | ⟨x, t, rfl, rfl⟩
    · rcases keyIs_shape hv with ⟨j, u, rfl, rfl⟩ | ⟨y, u, rfl, rfl⟩
      · rw [key_ll] at h; exact wpAny_eqBool_int h
      · rw [key_lr] at h; exact SeqAt.EqAt.int_str i t y u _ _ _ _ h
    · rcases keyIs_shape hv with ⟨j, u, rfl, rfl⟩ | ⟨y, u, rfl, rfl⟩
      · rw [key_rl] at h; exact SeqAt.EqAt.str_int x t j u _ _ _ _ h
      · rw [key_rr] at h; exact wpAny_eqBool_str h
  «strs» := fun k x t v h => by
    rcases keyIs_shape h with ⟨i, u, rfl, e⟩ | ⟨y, u, rfl, e⟩
    · exact nomatch e
    · injection e with e1 _
      subst e1
      cases v <;> rfl

end L2

namespace L2
open PySem PySem.Spec PyProof.Rows

/-- a value, without the heap -/
inductive V where
  | non | bl (b : Bool) | int (i : Int) | str (x : Str) | byt (b : Array UInt8) | flt (b : UInt64) | ref (a : Addr) | ty (n : String)
  deriving DecidableEq

def RelV : V → Value → Prop
  | .non, u => u = Value.none
  | .bl b, u => u = Value.bool b
  | .int i, u => ∃ t, u = Value.int i t
  | .str x, u => ∃ t, u = Value.str x t
  | .byt b, u => ∃ t, u = Value.bytes b t
  | .flt b, u => ∃ t, u = Value.float b t
  | .ref a, u => u = Value.ref a
  | .ty n, u => u = Value.type n

abbrev Vals : List V → List Value → Prop := Paired RelV
theorem Vals.length {xs : List V} {us : List Value} (r : Vals xs us) : xs.length = us.length := Paired.length r
theorem Vals.get : ∀ {xs : List V} {us : List Value} {i : Nat} {x : V}, Vals xs us → xs[i]? = some x → ∃ u, us[i]? = some u ∧ RelV x u
  | _, _, _, _, .nil, e => by simp at e
  | _, _, 0, _, .cons r _, e => by simp at e; subst e; exact ⟨_, rfl, r⟩
  | _, _, i + 1, x, .cons _ t, e => by
    obtain ⟨u, h1, h2⟩ := Vals.get (i := i) (x := x) t (by simpa using e)
    exact ⟨u, by simpa using h1, h2⟩
theorem Vals.set {x : V} {u : Value} (r : RelV x u) : ∀ {xs : List V} {us : List Value} (i : Nat), Vals xs us → Vals (xs.set i x) (us.set i u)
  | _, _, _, .nil => .nil
  | _, _, 0, .cons _ t => .cons r t
  | _, _, i + 1, .cons q t => .cons q (Vals.set r i t)
theorem Vals.append : ∀ {xs ys : List V} {us ws : List Value}, Vals xs us → Vals ys ws → Vals (xs ++ ys) (us ++ ws)
  | _, _, _, _, .nil, s => s
  | _, _, _, _, .cons r t, s => .cons r (Vals.append t s)
theorem Vals.take : ∀ {xs : List V} {us : List Value} (n : Nat), Vals xs us → Vals (xs.take n) (us.take n)
  | _, _, 0, _ => .nil
  | _, _, _ + 1, .nil => .nil
  | _, _, n + 1, .cons r t => .cons r (Vals.take n t)
theorem Vals.drop : ∀ {xs : List V} {us : List Value} (n : Nat), Vals xs us → Vals (xs.drop n) (us.drop n)
  | _, _, 0, r => r
  | _, _, _ + 1, .nil => .nil
  | _, _, n + 1, .cons _ t => Vals.drop n t

def RelO : Option V → Option Value → Prop
  | some v, some u => RelV v u
  | none, none => True
  | _, _ => False
def KV {κ : Type} : List (κ × V) → List (κ × Value) → Prop := Paired fun (p : κ × V) (q : κ × Value) => p.1 = q.1 ∧ RelV p.2 q.2

/-- a key of a dict (00_mix): an int or a text -/
def kV : Key → V
  | .inl i => .int i
  | .inr x => .str x

/-- what stands at a tracked address -/
inductive HO where
  /-- a list -/
  | lst (xs : List V)
  /-- a tuple (never changes) -/
  | tup (xs : List V)
  /-- a dict whose keys are ints and texts; one whose keys are tuples of ints and texts (the empty one is both) -/
  | dK (kvs : List (Key × V)) | dT (kvs : List (List Key × V))
  /-- a set of ints: its members, its size -/
  | set (S : Int → Bool) (n : Nat)
  /-- an instance of the class at C, its dict at dx, its attributes -/
  | ins (C dx : Addr) (fs : List (Str × V))
  /-- the dict of the instance at x -/
  | own (x : Addr)
  /-- the dict of an exception -/
  | xd (fs : List (Str × V))
  /-- a bound method, f of x -/
  | met (f x : Addr)
  /-- a range object lo, lo + 1, .. below hi -/
  | rng (lo hi : Int)
  /-- a thing that is known to the object (the script; a dict while a loop walks it): read, never written while it is so -/
  | frz (o : Obj) (u : HO)
  /-- a code object's table -/
  | tbl (ps : Array Value)
  /-- any other thing, by what is true of its one object (a def of one's own: SetO a S n := HO.ext fun h => ..) -/
  | ext (φ : Heap → Prop)

abbrev Hp := Addr → Option HO
def upd (H : Hp) (a : Addr) (o : HO) : Hp := fun b => if b = a then some o else H b
theorem upd_same {H : Hp} {a : Addr} {o : HO} : upd H a o a = some o := by unfold upd; rw [if_pos rfl]
theorem upd_ne {H : Hp} {a b : Addr} {o : HO} (h : b ≠ a) : upd H a o b = H b := by unfold upd; rw [if_neg h]
theorem ne_of_none {H : Hp} {a b : Addr} {o : HO} (h : H a = some o) (h' : H b = none) : a ≠ b := by
  intro e; subst e; rw [h] at h'; cases h'

section
variable (P : Program) (w : World)
def ObjOk (H : Hp) (h : Heap) (a : Addr) : HO → Prop
  | .lst xs => xs.length ≤ sizeLine ∧ ∃ (its : List Value) (n : Nat), Vals xs its ∧ h.get? a = some { cls := .type "list", data := .seq its.toArray n }
  | .tup xs => xs.length ≤ sizeLine ∧ ∃ its : List Value, Vals xs its ∧ IsTup h a its.toArray
  | .dK kvs => kvs.length ≤ sizeLine ∧ (a == sysModules) = false ∧ ∃ vs, KV kvs vs ∧ h.DictOf (mixKind P w) a vs
  | .dT kvs => kvs.length ≤ sizeLine ∧ (a == sysModules) = false ∧ ∃ xs : List (List Key × Addr × Value),
      Paired (fun (p : List Key × V) (q : List Key × Addr × Value) => p.1 = q.1 ∧ H q.2.1 = some (.tup (p.1.map kV)) ∧ RelV p.2 q.2.2) kvs xs ∧
      ∃ o es ep, h.get? a = some o ∧ o.ExactDict ∧ o.data = .dict es ep ∧ es.toList = xs.map (entryOfKey (tupleKind (mixKind P w))) ∧ (xs.map (·.1)).Nodup
  | .set S n => h.SetOf (intKind P w) a S n
  | .ins C dx fs => H dx = some (.own a) ∧ fs.length ≤ 1000 ∧ dx ≠ a ∧ h.get? a = some (PySem.W.instObj C dx) ∧
      ∃ mA, h.Ns1 dx mA ∧ (∀ f, RelO (fs.lookup f) (mA f)) ∧ PySem.Within mA (fs.map (·.1))
  | .own _ => ∃ o, h.get? a = some o
  | .xd fs => ∃ mA, h.Ns1 a mA ∧ ∀ f, RelO (fs.lookup f) (mA f)
  | .rng lo hi => ∃ t u v, h.get? a = some { cls := .type "range", data := .fields #[.int lo t, .int hi u, .int 1 v] }
  | .frz o u => h.get? a = some o ∧ ObjOk H h a u
  | .tbl ps => h.get? a = some { cls := .none, data := .fields ps }
  | .met f x => h.get? a = some (PySem.W.methodObj (.ref f) (.ref x))
  | .ext φ => φ h ∧ (∃ o, h.get? a = some o) ∧ ∀ h1 h2 : Heap, φ h1 → (∀ o, h1.get? a = some o → h2.get? a = some o) → φ h2
/-- the abstract heap is held -/
def HOk (H : Hp) (h : Heap) : Prop := ∀ a o, H a = some o → ObjOk P w H h a o
end

section
variable {P : Program} {w : World} {H H' : Hp} {h h' : Heap} {a : Addr} {o : HO}
theorem ObjOk.lt (x : ObjOk P w H h a o) : a < h.objs.size := by
  cases o with
  | lst xs => obtain ⟨_, _, _, _, e⟩ := x; exact Heap.lt_size e
  | tup xs => obtain ⟨_, _, _, p⟩ := x; exact p.lt
  | dK kvs => obtain ⟨_, _, _, _, o, _, _, e, _⟩ := x; exact Heap.lt_size e
  | dT kvs => obtain ⟨_, _, _, _, o, _, _, e, _⟩ := x; exact Heap.lt_size e
  | set S n => obtain ⟨o, _, _, _, e, _⟩ := x; exact Heap.lt_size e
  | ins C dx fs => obtain ⟨_, _, _, e, _⟩ := x; exact Heap.lt_size e
  | own y => obtain ⟨_, e⟩ := x; exact Heap.lt_size e
  | xd fs => obtain ⟨_, ⟨_, _, _, e, _⟩, _⟩ := x; exact Heap.lt_size e
  | rng lo hi => obtain ⟨_, _, _, e⟩ := x; exact Heap.lt_size e
  | frz ob u => obtain ⟨e, _⟩ := x; exact Heap.lt_size e
  | tbl ps => exact Heap.lt_size (show h.get? a = some _ from x)
  | met f y => exact Heap.lt_size (show h.get? a = some _ from x)
  | ext φ => obtain ⟨_, ⟨_, e⟩, _⟩ := x; exact Heap.lt_size e
theorem Paired.mapP {α β : Type} {F G : α → β → Prop} : ∀ {l₁ : List α} {l₂ : List β}, Paired F l₁ l₂ → (∀ a b, F a b → G a b) → Paired G l₁ l₂
  | _, _, .nil, _ => .nil
  | _, _, .cons r t, f => .cons (f _ _ r) (Paired.mapP t f)
/-- what an object's description leans on: its own object, its own dict, the tuples -/
theorem ObjOk.stay (x : ObjOk P w H h a o) (k : ∀ b u, (b = a ∨ H b = some (.own a)) → h.get? b = some u → h'.get? b = some u)
    (ho : ∀ b, H b = some (.own a) → H' b = some (.own a)) (ht : ∀ b xs, H b = some (.tup xs) → H' b = some (.tup xs)) : ObjOk P w H' h' a o := by
  induction o with
  | lst xs => obtain ⟨z, its, n, r, e⟩ := x; exact ⟨z, its, n, r, k _ _ (.inl rfl) e⟩
  | tup xs => obtain ⟨z, its, r, ob, e, c⟩ := x; exact ⟨z, its, r, ob, k _ _ (.inl rfl) e, c⟩
  | dK kvs => obtain ⟨z, y, vs, r, ob, es, ep, e, c⟩ := x; exact ⟨z, y, vs, r, ob, es, ep, k _ _ (.inl rfl) e, c⟩
  | dT kvs =>
    obtain ⟨z, y, xs, r, ob, es, ep, e, c⟩ := x
    exact ⟨z, y, xs, Paired.mapP r fun p q z => ⟨z.1, ht _ _ z.2.1, z.2.2⟩, ob, es, ep, k _ _ (.inl rfl) e, c⟩
  | set S n => obtain ⟨ob, es, ep, t, e, c⟩ := x; exact ⟨ob, es, ep, t, k _ _ (.inl rfl) e, c⟩
  | ins C dx fs =>
    obtain ⟨d, z, ne, e, mA, ⟨od, es, ep, e2, c⟩, r⟩ := x
    exact ⟨ho _ d, z, ne, k _ _ (.inl rfl) e, mA, ⟨od, es, ep, k _ _ (.inr d) e2, c⟩, r⟩
  | own y => obtain ⟨ob, e⟩ := x; exact ⟨ob, k _ _ (.inl rfl) e⟩
  | xd fs => obtain ⟨mA, ⟨od, es, ep, e, c⟩, r⟩ := x; exact ⟨mA, ⟨od, es, ep, k _ _ (.inl rfl) e, c⟩, r⟩
  | rng lo hi => obtain ⟨t, u, v, e⟩ := x; exact ⟨t, u, v, k _ _ (.inl rfl) e⟩
  | frz ob u ih => obtain ⟨e, q⟩ := x; exact ⟨k _ _ (.inl rfl) e, ih q⟩
  | tbl ps =>
    have e : h.get? a = some { cls := .none, data := .fields ps } := x
    show h'.get? a = some { cls := .none, data := .fields ps }
    exact k a _ (.inl rfl) e
  | met f y =>
    have e : h.get? a = some (PySem.W.methodObj (.ref f) (.ref y)) := x
    show h'.get? a = some (PySem.W.methodObj (.ref f) (.ref y))
    exact k a _ (.inl rfl) e
  | ext φ => obtain ⟨p, ⟨o, e⟩, st⟩ := x; exact ⟨st _ _ p fun o q => k _ _ (.inl rfl) q, ⟨o, k _ _ (.inl rfl) e⟩, st⟩
theorem HOk.lt (x : HOk P w H h) (e : H a = some o) : a < h.objs.size := (x a o e).lt
theorem HOk.fresh (x : HOk P w H h) (e : h.objs.size ≤ a) : H a = none := by
  cases q : H a with
  | none => rfl
  | some u => exact absurd (Nat.lt_of_lt_of_le (x.lt q) e) (Nat.lt_irrefl _)
/-- every object of the heap is kept -/
theorem HOk.kept (x : HOk P w H h) (k : ∀ b u, h.get? b = some u → h'.get? b = some u) : HOk P w H h' := fun a o e =>
  (x a o e).stay (fun b u _ q => k b u q) (fun _ q => q) fun _ _ q => q
/-- a new object is laid and tracked -/
theorem HOk.laid (x : HOk P w H h) (k : ∀ b u, h.get? b = some u → h'.get? b = some u) (hp : h.objs.size ≤ a) (new : ObjOk P w (upd H a o) h' a o) : HOk P w (upd H a o) h' := fun b u e => by
  have hn := x.fresh hp
  by_cases hb : b = a
  · subst hb; rw [upd_same] at e; cases e; exact new
  · rw [upd_ne hb] at e
    exact (x b u e).stay (fun c v _ q => k c v q) (fun c q => by rw [upd_ne (ne_of_none q hn)]; exact q) fun c xs q => by rw [upd_ne (ne_of_none q hn)]; exact q
end

/-- what may be read as u: it is u, or a known u -/
def Rd (H : Hp) (a : Addr) (u : HO) : Prop := H a = some u ∨ ∃ o, H a = some (.frz o u)
theorem Rd.ok {P : Program} {w : World} {H : Hp} {h : Heap} {a : Addr} {u : HO} (r : Rd H a u) (x : HOk P w H h) : ObjOk P w H h a u := by
  rcases r with r | ⟨o, r⟩
  · exact x a u r
  · obtain ⟨_, q⟩ := x a _ r
    exact q
/-- what may be written -/
def Mut : Option HO → Prop
  | some (.lst _) => True
  | some (.dK _) => True
  | some (.dT _) => True
  | some (.set _ _) => True
  | some (.ins _ _ _) => True
  | some (.ext _) => True
  | _ => False
section
variable {P : Program} {w : World} {H : Hp} {h h' : Heap} {x e : Addr} {o' : HO}
/-- the object at e is changed: x itself, or the dict of the instance x -/
theorem HOk.write (ok : HOk P w H h) (mu : Mut (H x)) (he : e = x ∨ H e = some (.own x)) (k : ∀ b u, b ≠ e → h.get? b = some u → h'.get? b = some u) (heo : ∃ u, h'.get? e = some u)
    (new : ObjOk P w (upd H x o') h' x o') : HOk P w (upd H x o') h' := fun b u q => by
  have nown : ∀ c y, H c = some (.own y) → c ≠ x := fun c y r z => by subst z; rw [r] at mu; exact mu
  have ntup : ∀ c xs, H c = some (.tup xs) → c ≠ x := fun c xs r z => by subst z; rw [r] at mu; exact mu
  by_cases hb : b = x
  · subst hb; rw [upd_same] at q; cases q; exact new
  · rw [upd_ne hb] at q
    by_cases hbe : b = e
    · have q' : H b = some (.own x) := by
        rcases he with z | z
        · exact absurd (hbe.trans z) hb
        · rw [hbe]; exact z
      rw [q] at q'; cases q'
      obtain ⟨v, hv⟩ := heo
      exact ⟨v, by rw [hbe]; exact hv⟩
    · refine (ok b u q).stay (fun c v hc r => k c v ?_ r) (fun c r => by rw [upd_ne (nown c b r)]; exact r) fun c xs r => by rw [upd_ne (ntup c xs r)]; exact r
      rcases hc with rfl | hc
      · exact hbe
      · rintro rfl
        rcases he with z | z
        · exact nown c b hc z
        · rw [hc] at z; cases z; exact hb rfl
end

/-! ### kept unless tracked; of the frames at fs (the callers') the slots may change (an exception that passes writes there); of the records at ex (iterators) nothing is said -/
structure Un (fs ex : List Addr) (H H' : Hp) (h h' : Heap) : Prop where
  keep : ∀ b o, h.get? b = some o → H b = none → b ∉ fs → b ∉ ex → h'.get? b = some o
  slot : ∀ b o, h.get? b = some o → H b = none → b ∈ fs → b ∉ ex → ∃ sl, h'.get? b = some { o with slots := sl }
  free : ∀ b o, h.get? b = some o → H b = none → b ∉ ex → H' b = none
  there : ∀ b o, h.get? b = some o → b ∉ ex → ∃ o', h'.get? b = some o'
  tups : ∀ b xs, H b = some (.tup xs) → H' b = some (.tup xs)
  frzs : ∀ b o u, H b = some (.frz o u) → H' b = some (.frz o u)
  tbls : ∀ b ps, H b = some (.tbl ps) → ∃ more, H' b = some (.tbl (ps ++ more))
section
variable {fs fs' ex ex' : List Addr} {H H1 H2 : Hp} {h h1 h2 h' : Heap} {a x e : Addr} {o : HO}
theorem Un.any (u : Un fs ex H H1 h h1) {b : Addr} {ob : Obj} (q : h.get? b = some ob) (n : H b = none) (hx : b ∉ ex) : ∃ sl, h1.get? b = some { ob with slots := sl } := by
  by_cases hb : b ∈ fs
  · exact u.slot b ob q n hb hx
  · exact ⟨ob.slots, u.keep b ob q n hb hx⟩
theorem Un.kept (k : ∀ b u, h.get? b = some u → h'.get? b = some u) : Un fs ex H H h h' :=
  ⟨fun b ob q _ _ _ => k b ob q, fun b ob q _ _ _ => ⟨ob.slots, k b ob q⟩, fun _ _ _ n _ => n, fun b ob q _ => ⟨ob, k b ob q⟩, fun _ _ q => q, fun _ _ _ q => q, fun _ ps q => ⟨#[], by rw [q]; simp⟩⟩
theorem Un.refl : Un fs ex H H h h := Un.kept fun _ _ q => q
theorem Un.laid (k : ∀ b u, h.get? b = some u → h'.get? b = some u) (hp : h.objs.size ≤ a) (hn : H a = none) : Un fs ex H (upd H a o) h h' where
  keep := fun b u q _ _ _ => k b u q
  slot := fun b u q _ _ _ => ⟨u.slots, k b u q⟩
  free := fun b u q n _ => by rw [upd_ne (Nat.ne_of_lt (Nat.lt_of_lt_of_le (Heap.lt_size q) hp))]; exact n
  there := fun b u q _ => ⟨u, k b u q⟩
  tups := fun b xs q => by rw [upd_ne (ne_of_none q hn)]; exact q
  frzs := fun b u xs q => by rw [upd_ne (ne_of_none q hn)]; exact q
  tbls := fun b ps q => ⟨#[], by rw [upd_ne (ne_of_none q hn), q]; simp⟩
theorem Un.write (mu : Mut (H x)) (he : e = x ∨ H e = some (.own x)) (k : ∀ b u, b ≠ e → h.get? b = some u → h'.get? b = some u) (heo : ∃ u, h'.get? e = some u) : Un fs ex H (upd H x o) h h' := by
  have hx : ∀ b, H b = none → b ≠ x := fun b n z => by subst z; rw [n] at mu; exact mu
  have hb : ∀ b, H b = none → b ≠ e := fun b n z => by
    subst z
    rcases he with r | r
    · exact hx b n r
    · rw [n] at r; cases r
  have hm : ∀ b u, H b = some u → ¬ Mut (some u) → b ≠ x := fun b u q nm z => by subst z; rw [q] at mu; exact nm mu
  refine ⟨fun b u q n _ _ => k b u (hb b n) q, fun b u q n _ _ => ⟨u.slots, k b u (hb b n) q⟩, fun b u q n _ => by rw [upd_ne (hx b n)]; exact n, fun b u q _ => ?_,
    fun b xs q => by rw [upd_ne (hm b _ q fun z => z)]; exact q, fun b u xs q => by rw [upd_ne (hm b _ q fun z => z)]; exact q, fun b ps q => ⟨#[], by rw [upd_ne (hm b _ q fun z => z), q]; simp⟩⟩
  by_cases hbe : b = e
  · subst hbe; exact heo
  · exact ⟨u, k b u hbe q⟩
end

/-! ### the heap without what is tracked -/
def trk (h : Heap) (H : Hp) : List Addr := (List.range h.objs.size).filter fun a => (H a).isSome
def hidT (h : Heap) (H : Hp) : Heap := PySem.W.hideAll h (trk h H)
theorem hidT_size (h : Heap) (H : Hp) : (hidT h H).objs.size = h.objs.size := PySem.W.hideAll_size _ _
theorem hidT_get {h : Heap} {H : Hp} {b : Addr} {o : Obj} (e : h.get? b = some o) (n : H b = none) : (hidT h H).get? b = some o :=
  PySem.W.hideAll_get _ e fun hm => by
    have q : (H b).isSome = true := (List.mem_filter.mp hm).2
    rw [n] at q; simp at q
theorem of_hidT {h : Heap} {H : Hp} {b : Addr} {o : Obj} (e : (hidT h H).get? b = some o) : h.get? b = some o ∧ H b = none := by
  have e' : h.get? b = some o := PySem.W.of_hideAll (trk h H) e
  refine ⟨e', ?_⟩
  cases q : H b with
  | none => rfl
  | some x =>
    have hm : b ∈ trk h H := List.mem_filter.mpr ⟨List.mem_range.mpr (Heap.lt_size e'), by simp [q]⟩
    have z : (hidT h H).get? b = none := PySem.W.hideAll_none (trk h H) hm
    rw [z] at e; cases e

/-! ### OpenK's ledger, filled with every new object but one -/
end L2

namespace L2
open PySem PySem.Spec PyProof.Rows

/-- the module's facts, over the base: the heap at the law's entry without what is tracked there -/
structure Mod (K : PySem.W.Frag) (mg : Str → Option Value) (base : Heap) : Prop where
  kin : K.In base
  glob : base.Ns mainGlobals mg
  blt : ∃ mb, base.Ns builtinsNs mb ∧ ∀ x : Str, x ≠ "__name__" → mb x = bootBuiltins x
  nolimit : base.NoLimit

/-- the context: a def's body (or a comprehension's block) running. base: fixed through the whole law; s₀, H₀: the entry; outer: the frames whose slots others may change (a def's callers); stack: all frames that run;
   ex: iterators that were made ahead of the entry and are walked here (a comprehension's); fn: the names whose cells were made at the entry (a def: all; a comprehension's block: its own); calm: not within an except suite; pn: pins that every state bears; xe: what is wanted of an exception that leaves the code -/
structure Cx where
  prog : Program
  w : World
  K : PySem.W.Frag
  mg : Str → Option Value
  base : Heap
  A : Around
  N : List Str
  s₀ : Shared
  H₀ : Hp
  env : Env
  outer : List Env
  stack : List Env
  ex : List Addr
  fn : Str → Bool
  calm : Bool
  pn : List (Addr × Obj)
  xe : Value → Shared → Prop
/-- the callers' frames -/
def frs (l : List Env) : List Addr := l.filterMap (·.frame)
abbrev Cx.fs (X : Cx) : List Addr := frs X.outer

def Vis (sc : Scope) (x : Str) : Prop := sc.names.lookup x = some .local ∨ sc.names.lookup x = some .cell ∨ sc.names.lookup x = some .free
def Loc (sc : Scope) (x : Str) : Prop := sc.names.lookup x = some .local ∨ sc.names.lookup x = some .cell
def Look (env : Env) (h : Heap) (m : Str → Option Value) (x : Str) (u : Value) : Prop :=
  (env.kindOf x = some .local ∧ m x = some u) ∨ ((env.kindOf x = some .cell ∨ env.kindOf x = some .free) ∧ ∃ c, env.cells.lookup x = some c ∧ h.IsCell c (some u))

structure Cx.Ok (X : Cx) : Prop where
  mod : Mod X.K X.mg X.base
  kind : X.env.scope.kind = .function
  glob : X.env.globals = mainGlobals
  blt : X.env.builtins = builtinsNs
  above : X.s₀.heap.objs.size ≤ X.env.locals
  inj : ∀ x y c, X.env.cells.lookup x = some c → X.env.cells.lookup y = some c → x = y
  has : ∀ x, (X.env.kindOf x = some .cell ∨ X.env.kindOf x = some .free) → ∃ c, X.env.cells.lookup x = some c
  cab : ∀ x c, X.fn x = true → X.env.cells.lookup x = some c → X.s₀.heap.objs.size ≤ c
  hd : X.calm = true → X.A.handled = none
  frames : X.A.frames = some X.stack
  stk : X.stack = X.outer ∨ (X.stack = X.env :: X.outer ∧ X.env.frame = some X.env.locals)
  exf : ∀ b ∈ X.ex, b ≠ X.env.locals ∧ ∀ x c, X.env.cells.lookup x = some c → c ≠ b
  bs : ∀ b o, X.base.get? b = some o → X.s₀.heap.get? b = some o ∧ X.H₀ b = none
  bsz : X.base.objs.size ≤ X.s₀.heap.objs.size
  noex : ∀ b o, X.base.get? b = some o → b ∉ X.ex
  exfs : ∀ b ∈ X.ex, b ∉ X.fs
  funs : X.s₀.heap.FunFrames X.base X.outer
  frf : ∀ b ∈ X.fs, X.H₀ b = none

structure Inv (X : Cx) (pins : List (Addr × Obj)) (σ : List (Option V)) (H : Hp) (s : Shared) : Prop where
  ok : X.Ok
  os : s.os = X.s₀.os
  bare : AllBare s.gens
  base : Un X.fs X.ex X.H₀ H X.s₀.heap s.heap
  loc : ∃ m, s.heap.Ns X.env.locals m ∧ ∀ (i : Nat) (x : Str) (v : V), X.N[i]? = some x → σ[i]? = some (some v) → Vis X.env.scope x → ∃ u, RelV v u ∧ Look X.env s.heap m x u
  cell : ∀ x c, X.env.cells.lookup x = some c → ∃ v, s.heap.IsCell c v
  free : H X.env.locals = none
  freeC : ∀ x c, X.env.cells.lookup x = some c → H c = none
  pin : ∀ p ∈ X.pn ++ pins, s.heap.get? p.1 = some p.2 ∧ H p.1 = none ∧ p.1 ≠ X.env.locals ∧ p.1 ∉ X.fs ∧ ∀ v, p.2.data ≠ .cell v
  hok : HOk X.prog X.w H s.heap
  len : σ.length = X.N.length

section
variable {X : Cx} {pins : List (Addr × Obj)} {σ : List (Option V)} {H H' : Hp} {s : Shared} {h' : Heap}

theorem Cx.Ok.nofr (ok : X.Ok) {b : Addr} {o : Obj} (e : X.base.get? b = some o) : b ∉ X.fs := fun hb => by
  have := (ok.funs.mem hb).1
  rw [e] at this; cases this
theorem Inv.bs (I : Inv X pins σ H s) : ∀ b o, X.base.get? b = some o → s.heap.get? b = some o ∧ H b = none := fun b o e =>
  ⟨I.base.keep b o (I.ok.bs b o e).1 (I.ok.bs b o e).2 (I.ok.nofr e) (I.ok.noex b o e), I.base.free b o (I.ok.bs b o e).1 (I.ok.bs b o e).2 (I.ok.noex b o e)⟩
theorem Inv.bk (I : Inv X pins σ H s) : ∀ b o, X.base.get? b = some o → s.heap.get? b = some o := fun b o e => (I.bs b o e).1
theorem Inv.mod (I : Inv X pins σ H s) : Mod X.K X.mg X.base := I.ok.mod
theorem Inv.kIn (I : Inv X pins σ H s) : X.K.In s.heap := I.ok.mod.kin.keeps I.bk
/-- the frame over the base: for OpenK's rules (K.In X.base is I.mod.kin) -/
theorem Inv.fr (I : Inv X pins σ H s) : ∃ m, Fr X.base X.env.locals s.heap m :=
  let ⟨m, hn, _⟩ := I.loc
  ⟨m, hn, I.bk, Nat.le_trans I.ok.bsz I.ok.above⟩
theorem Inv.lt (I : Inv X pins σ H s) : X.env.locals < s.heap.objs.size := let ⟨_, hn, _⟩ := I.loc; hn.lt
theorem Inv.sz (I : Inv X pins σ H s) : X.s₀.heap.objs.size ≤ s.heap.objs.size := Nat.le_trans I.ok.above (Nat.le_of_lt I.lt)
theorem Inv.nofs (I : Inv X pins σ H s) {a : Addr} (h : s.heap.objs.size ≤ a) : a ∉ X.fs := fun hb => by
  obtain ⟨_, o, ho, _⟩ := I.ok.funs.mem hb
  exact absurd (Nat.lt_of_lt_of_le (Heap.lt_size ho) (Nat.le_trans I.sz h)) (Nat.lt_irrefl _)
theorem Inv.cne (I : Inv X pins σ H s) : ∀ x c, X.env.cells.lookup x = some c → c ≠ X.env.locals := fun x c e z => by
  obtain ⟨v, o, ho, hd⟩ := I.cell x c e
  obtain ⟨m, ⟨o', es, ep, ho', hd', _⟩, _⟩ := I.loc
  rw [z, ho'] at ho; cases ho; rw [hd'] at hd; cases hd
theorem Inv.funs (I : Inv X pins σ H s) : s.heap.FunFrames X.base X.outer := by
  have all : ∀ (l : List Env), (∀ b ∈ frs l, b ∈ X.fs) → X.s₀.heap.FunFrames X.base l → s.heap.FunFrames X.base l := by
    intro l
    induction l with
    | nil => intro _ _; trivial
    | cons env r ih =>
      intro hs hl
      obtain ⟨hk, ⟨L, o, hf, hn, ho, hd⟩, hr⟩ := hl
      have hL : L ∈ X.fs := hs L (by unfold frs; rw [List.filterMap_cons, hf]; exact List.mem_cons_self)
      obtain ⟨sl, e⟩ := I.base.slot L o ho (I.ok.frf L hL) hL fun z => I.ok.exfs L z hL
      exact ⟨hk, ⟨L, _, hf, hn, e, hd⟩, ih (fun b hb => hs b (by unfold frs; rw [List.filterMap_cons, hf]; exact List.mem_cons_of_mem _ hb)) hr⟩
  exact all X.outer (fun _ hb => hb) I.ok.funs

/-- the frames that run, for a call -/
theorem Inv.stack (I : Inv X pins σ H s) : s.heap.FunFrames X.base X.stack := by
  rcases I.ok.stk with e | ⟨e, hf⟩
  · rw [e]; exact I.funs
  · rw [e]
    obtain ⟨m, hn, _⟩ := I.loc
    refine .cons (by rw [I.ok.kind]; decide) hf hn ?_ I.funs
    exact Heap.get?_none_of_le (Nat.le_trans I.ok.bsz I.ok.above)
theorem Inv.stkSub (I : Inv X pins σ H s) : ∀ b ∈ frs X.stack, b ∈ X.env.locals :: X.fs := fun b hb => by
  rcases I.ok.stk with e | ⟨e, hf⟩
  · rw [e] at hb; exact List.mem_cons_of_mem _ hb
  · rw [e] at hb
    unfold frs at hb
    rw [List.filterMap_cons, hf] at hb
    exact hb
theorem Inv.stkFree (I : Inv X pins σ H s) : ∀ b ∈ frs X.stack, H b = none := fun b hb => by
  rcases List.mem_cons.mp (I.stkSub b hb) with e | hb
  · rw [e]; exact I.free
  · obtain ⟨_, o, ho, _⟩ := I.ok.funs.mem hb
    exact I.base.free b o ho (I.ok.frf b hb) fun z => I.ok.exfs b z hb

/-- THE STEP: the untracked objects but the frame and the records at ch are kept (the callers' frames up to slots), the frame's map is kept, the new abstract heap is held -/
theorem Inv.step {g' : Array GenState} {t' : Nat} {d' : Drawn} {ch : List Addr} (I : Inv X pins σ H s)
    (hch : ∀ b ∈ ch, (b ∈ X.ex ∨ X.s₀.heap.objs.size ≤ b) ∧ b ≠ X.env.locals ∧ (∀ x c, X.env.cells.lookup x = some c → c ≠ b) ∧ ∀ p ∈ X.pn ++ pins, p.1 ≠ b)
    (keep : ∀ b o, b ≠ X.env.locals → b ∉ X.fs → b ∉ ch → s.heap.get? b = some o → H b = none → h'.get? b = some o)
    (slot : ∀ b o, b ≠ X.env.locals → b ∈ X.fs → b ∉ ch → s.heap.get? b = some o → H b = none → ∃ sl, h'.get? b = some { o with slots := sl }) (free : ∀ b o, b ∉ ch → s.heap.get? b = some o → H b = none → H' b = none)
    (there : ∀ b o, b ∉ ch → s.heap.get? b = some o → ∃ o', h'.get? b = some o')
    (tups : ∀ b xs, H b = some (.tup xs) → H' b = some (.tup xs)) (frzs : ∀ b o u, H b = some (.frz o u) → H' b = some (.frz o u)) (tbls : ∀ b ps, H b = some (.tbl ps) → ∃ more, H' b = some (.tbl (ps ++ more)))
    (ns : ∀ m, s.heap.Ns X.env.locals m → h'.Ns X.env.locals m) (hok : HOk X.prog X.w H' h') (hg : AllBare g') :
    Inv X pins σ H' { s with heap := h', gens := g', drawn := d', toks := t' } := by
  have neL : ∀ b o, X.s₀.heap.get? b = some o → b ≠ X.env.locals := fun b o e => Nat.ne_of_lt (Nat.lt_of_lt_of_le (Heap.lt_size e) I.ok.above)
  have neC : ∀ b o, X.s₀.heap.get? b = some o → b ∉ X.ex → b ∉ ch := fun b o e hx hb => by
    rcases (hch b hb).1 with z | z
    · exact hx z
    · exact absurd (Nat.lt_of_lt_of_le (Heap.lt_size e) z) (Nat.lt_irrefl _)
  have cellK : ∀ x c, X.env.cells.lookup x = some c → ∀ v, s.heap.IsCell c v → h'.IsCell c v := fun x c e v ⟨o, ho, hd⟩ => by
    have nch : c ∉ ch := fun z => (hch c z).2.2.1 x c e rfl
    by_cases hc : c ∈ X.fs
    · obtain ⟨sl, q⟩ := slot c o (I.cne x c e) hc nch ho (I.freeC x c e)
      exact ⟨_, q, hd⟩
    · exact ⟨o, keep c o (I.cne x c e) hc nch ho (I.freeC x c e), hd⟩
  refine ⟨I.ok, I.os, hg, ⟨fun b o e n hb hx => ?_, fun b o e n hb hx => ?_, fun b o e n hx => ?_, fun b o e hx => ?_, fun b xs e => tups b xs (I.base.tups b xs e), fun b o xs e => frzs b o xs (I.base.frzs b o xs e), fun b ps e => ?_⟩, ?_, fun x c e => ?_, ?_, fun x c e => ?_, fun p hp => ?_, hok, I.len⟩
  · exact keep b o (neL b o e) hb (neC b o e hx) (I.base.keep b o e n hb hx) (I.base.free b o e n hx)
  · obtain ⟨sl, e1⟩ := I.base.slot b o e n hb hx
    obtain ⟨sl', e2⟩ := slot b _ (neL b o e) hb (neC b o e hx) e1 (I.base.free b o e n hx)
    exact ⟨sl', e2⟩
  · obtain ⟨o', e1⟩ := I.base.there b o e hx
    exact free b o' (neC b o e hx) e1 (I.base.free b o e n hx)
  · obtain ⟨o', e1⟩ := I.base.there b o e hx
    exact there b o' (neC b o e hx) e1
  · obtain ⟨m1, e1⟩ := I.base.tbls b ps e
    obtain ⟨m2, e2⟩ := tbls b _ e1
    exact ⟨m1 ++ m2, by rw [e2, Array.append_assoc]⟩
  · obtain ⟨m, hn, hl⟩ := I.loc
    refine ⟨m, ns m hn, fun i x v e1 e2 e3 => ?_⟩
    obtain ⟨u, r, l⟩ := hl i x v e1 e2 e3
    refine ⟨u, r, ?_⟩
    rcases l with l | ⟨k, c, e, z⟩
    · exact .inl l
    · exact .inr ⟨k, c, e, cellK x c e _ z⟩
  · obtain ⟨v, z⟩ := I.cell x c e
    exact ⟨v, cellK x c e v z⟩
  · obtain ⟨m, ⟨o, _, _, ho, _⟩, _⟩ := I.loc
    exact free _ o (fun z => (hch _ z).2.1 rfl) ho I.free
  · obtain ⟨v, o, ho, hd⟩ := I.cell x c e
    exact free c o (fun z => (hch c z).2.2.1 x c e rfl) ho (I.freeC x c e)
  · obtain ⟨e, n, ne, nf, d⟩ := I.pin p hp
    have nch : p.1 ∉ ch := fun z => (hch p.1 z).2.2.2 p hp rfl
    exact ⟨keep p.1 p.2 ne nf nch e n, free p.1 p.2 nch e n, ne, nf, d⟩
/-- .. where the frame's own object is kept too -/
theorem Inv.un {t' : Nat} (I : Inv X pins σ H s) (u : Un X.fs [] H H' s.heap h') (hok : HOk X.prog X.w H' h') : Inv X pins σ H' { s with heap := h', toks := t' } := by
  obtain ⟨m, ⟨o, es, ep, ho, r⟩, _⟩ := id I.loc
  obtain ⟨sl, hL⟩ := u.any ho I.free (by simp)
  exact I.step (g' := s.gens) (d' := s.drawn) (ch := []) (fun _ z => nomatch z) (fun b o _ hb _ e n => u.keep b o e n hb (by simp)) (fun b o _ hb _ e n => u.slot b o e n hb (by simp)) (fun b o _ e n => u.free b o e n (by simp)) (fun b o _ e => u.there b o e (by simp)) u.tups u.frzs u.tbls (fun m' hm => by
    obtain ⟨o', es', ep', ho', r'⟩ := hm
    rw [ho] at ho'; cases ho'
    exact ⟨_, es', ep', hL, r'⟩) hok I.bare
/-- behind a call (or a comprehension's block): the slots of this frame may have changed too, the records at ch may have turned -/
theorem Inv.call {g' : Array GenState} {t' : Nat} {d' : Drawn} {ch : List Addr} (I : Inv X pins σ H s) (u : Un (frs X.stack) ch H H' s.heap h') (hok : HOk X.prog X.w H' h') (hg : AllBare g')
    (hch : ∀ b ∈ ch, (b ∈ X.ex ∨ X.s₀.heap.objs.size ≤ b) ∧ b ≠ X.env.locals ∧ (∀ x c, X.env.cells.lookup x = some c → c ≠ b) ∧ ∀ p ∈ X.pn ++ pins, p.1 ≠ b) :
    Inv X pins σ H' { s with heap := h', gens := g', drawn := d', toks := t' } := by
  obtain ⟨m, ⟨o, es, ep, ho, r⟩, _⟩ := id I.loc
  obtain ⟨sl, hL⟩ := u.any ho I.free fun z => (hch _ z).2.1 rfl
  exact I.step (ch := ch) hch (fun b o hL hb hc e n => u.keep b o e n (fun z => (List.mem_cons.mp (I.stkSub b z)).elim hL hb) hc) (fun b o _ _ hc e n => u.any e n hc) (fun b o hc e n => u.free b o e n hc) (fun b o hc e => u.there b o e hc) u.tups u.frzs u.tbls (fun m' hm => by
    obtain ⟨o', es', ep', ho', r'⟩ := hm
    rw [ho] at ho'; cases ho'
    exact ⟨_, es', ep', hL, r'⟩) hok hg
/-- an untracked record of ours (an iterator) has turned -/
theorem Inv.turned {t' : Nat} {it : Addr} (I : Inv X pins σ H s) (k : ∀ b o, b ≠ it → s.heap.get? b = some o → h'.get? b = some o) (hn : H it = none) (hL : it ≠ X.env.locals)
    (h1 : it ∈ X.ex ∨ X.s₀.heap.objs.size ≤ it) (h2 : ∀ x c, X.env.cells.lookup x = some c → c ≠ it) (h3 : ∀ p ∈ X.pn ++ pins, p.1 ≠ it) : Inv X pins σ H { s with heap := h', toks := t' } := by
  have nit : ∀ b u, H b = some u → b ≠ it := fun b u e z => by rw [z, hn] at e; cases e
  refine I.step (g' := s.gens) (d' := s.drawn) (ch := [it]) (fun b hb => ?_) (fun b o _ _ hc e _ => k b o (fun z => hc (by simp [z])) e) (fun b o _ _ hc e _ => ⟨o.slots, k b o (fun z => hc (by simp [z])) e⟩) (fun _ _ _ _ n => n)
    (fun b o hc e => ⟨o, k b o (fun z => hc (by simp [z])) e⟩) (fun _ _ e => e) (fun _ _ _ e => e) (fun b ps e => ⟨#[], by rw [e]; simp⟩) (fun m hm => ?_) (fun b u e => ?_) I.bare
  · have e : b = it := by simpa using hb
    subst e
    exact ⟨h1, hL, h2, h3⟩
  · obtain ⟨o, es, ep, ho, r⟩ := hm
    exact ⟨o, es, ep, k _ o (Ne.symm hL) ho, r⟩
  · refine (I.hok b u e).stay (fun c v hc q => k c v ?_ q) (fun _ q => q) fun _ _ q => q
    rcases hc with z | z
    · rw [z]; exact nit b u e
    · exact nit c _ z
theorem Inv.tok (I : Inv X pins σ H s) (t : Nat) : Inv X pins σ H { s with toks := t } := I.un (h' := s.heap) (t' := t) Un.refl I.hok
/-- all objects kept -/
theorem Inv.kept {t' : Nat} (I : Inv X pins σ H s) (k : ∀ b u, s.heap.get? b = some u → h'.get? b = some u) : Inv X pins σ H { s with heap := h', toks := t' } := I.un (Un.kept k) (I.hok.kept k)
/-- a new object laid and tracked -/
theorem Inv.laid {a : Addr} {o : HO} {t' : Nat} (I : Inv X pins σ H s) (k : ∀ b u, s.heap.get? b = some u → h'.get? b = some u) (hp : s.heap.objs.size ≤ a) (new : ObjOk X.prog X.w (upd H a o) h' a o) :
    Inv X pins σ (upd H a o) { s with heap := h', toks := t' } := I.un (Un.laid k hp (I.hok.fresh hp)) (I.hok.laid k hp new)
/-- an object written -/
theorem Inv.write {x e : Addr} {o : HO} {t' : Nat} (I : Inv X pins σ H s) (mu : Mut (H x)) (he : e = x ∨ H e = some (.own x)) (k : ∀ b u, b ≠ e → s.heap.get? b = some u → h'.get? b = some u) (heo : ∃ u, h'.get? e = some u)
    (new : ObjOk X.prog X.w (upd H x o) h' x o) : Inv X pins σ (upd H x o) { s with heap := h', toks := t' } := I.un (Un.write mu he k heo) (I.hok.write mu he k heo new)
/-- forgetting slots, pins -/
theorem Inv.weak {σ' : List (Option V)} (I : Inv X pins σ H s) (hl : σ'.length = σ.length) (w : ∀ (i : Nat) v, σ'[i]? = some (some v) → σ[i]? = some (some v)) : Inv X pins σ' H s :=
  ⟨I.ok, I.os, I.bare, I.base, let ⟨m, hn, hl'⟩ := I.loc; ⟨m, hn, fun i x v e1 e2 e3 => hl' i x v e1 (w i v e2) e3⟩, I.cell, I.free, I.freeC, I.pin, I.hok, hl.trans I.len⟩
theorem Inv.pins_of {pins' : List (Addr × Obj)} (I : Inv X pins σ H s) (h : ∀ p ∈ pins', s.heap.get? p.1 = some p.2 ∧ H p.1 = none ∧ p.1 ≠ X.env.locals ∧ p.1 ∉ X.fs ∧ ∀ v, p.2.data ≠ .cell v) : Inv X pins' σ H s :=
  ⟨I.ok, I.os, I.bare, I.base, I.loc, I.cell, I.free, I.freeC, fun p hp => (List.mem_append.mp hp).elim (fun z => I.pin p (List.mem_append_left _ z)) (h p), I.hok, I.len⟩

theorem nodup_ix {N : List Str} (hN : N.Nodup) {i j : Nat} {x : Str} (a : N[i]? = some x) (b : N[j]? = some x) : i = j := by
  obtain ⟨h1, e1⟩ := List.getElem?_eq_some_iff.mp a
  obtain ⟨h2, e2⟩ := List.getElem?_eq_some_iff.mp b
  exact (List.getElem_inj hN).mp (e1.trans e2.symm)

/-- a name is stored; what changed -/
theorem store_ok2 {M : Model} {A : Around} {E : Value → Shared → Prop} {i : Nat} {x : Str} {v : V} {u : Value} {Q : Unit → Shared → Prop} (I : Inv X pins σ H s) (hN : X.N.Nodup) (hi : X.N[i]? = some x) (hx : Loc X.env.scope x) (r : RelV v u)
    (h : ∀ s', Inv X pins (σ.set i (some v)) H s' → (∃ a, Heap.SameBut a s.heap s'.heap ∧ (a = X.env.locals ∨ X.env.cells.lookup x = some a)) → Q () s') (hf : X.fn x = true ∨ X.env.scope.names.lookup x = some .local := by first | exact .inl rfl | exact .inr rfl | assumption) : wpAny M A (storeName X.env x u) Q E s := by
  obtain ⟨m, hn, hl⟩ := id I.loc
  have hcls : (X.env.scope.kind == .class || (X.env.scope.kind == .module && X.env.locals != X.env.globals)) = false := by rw [I.ok.kind]; rfl
  have hiσ : i < σ.length := by rw [I.len]; exact (List.getElem?_eq_some_iff.mp hi).1
  have cne := I.cne
  have tracked : ∀ {a : Addr} {h' : Heap}, (∃ o, s.heap.get? a = some o ∧ H a = none) → Heap.SameBut a s.heap h' → HOk X.prog X.w H h' := fun {a h'} ha hs b ob e => by
    obtain ⟨_, _, hfree⟩ := ha
    refine (I.hok b ob e).stay (fun c w' hc q => (hs.2 c ?_).trans q) (fun _ q => q) fun _ _ q => q
    rintro rfl
    rcases hc with rfl | hc
    · rw [hfree] at e; cases e
    · rw [hfree] at hc; cases hc
  rcases hx with hk | hk
  · refine wpAny_storeName_local hk hn (fun h' hn' hs => ?_) hcls
    obtain ⟨oL, _, _, hoL, _⟩ := id hn
    refine h _ ⟨I.ok, I.os, I.bare, ⟨fun b o e n hb hx => ?_, fun b o e n hb hx => ?_, I.base.free, fun b o e hx => ?_, I.base.tups, I.base.frzs, I.base.tbls⟩, ⟨_, hn', fun j y v' e1 e2 e3 => ?_⟩, fun y c e => ?_, I.free, I.freeC, fun p hp => ?_, tracked ⟨oL, hoL, I.free⟩ hs, by simpa using I.len⟩ ⟨_, hs, .inl rfl⟩
    · exact (hs.2 b (Nat.ne_of_lt (Nat.lt_of_lt_of_le (Heap.lt_size e) I.ok.above))).trans (I.base.keep b o e n hb hx)
    · obtain ⟨sl, e1⟩ := I.base.slot b o e n hb hx
      exact ⟨sl, (hs.2 b (Nat.ne_of_lt (Nat.lt_of_lt_of_le (Heap.lt_size e) I.ok.above))).trans e1⟩
    · obtain ⟨o', e1⟩ := I.base.there b o e hx
      exact ⟨o', (hs.2 b (Nat.ne_of_lt (Nat.lt_of_lt_of_le (Heap.lt_size e) I.ok.above))).trans e1⟩
    · by_cases hj : j = i
      · subst hj
        rw [hi] at e1; cases e1
        rw [List.getElem?_set_self hiσ] at e2
        cases e2
        exact ⟨u, r, .inl ⟨hk, by simp⟩⟩
      · rw [List.getElem?_set_ne (Ne.symm hj)] at e2
        obtain ⟨u', r', q⟩ := hl j y v' e1 e2 e3
        refine ⟨u', r', ?_⟩
        rcases q with ⟨k, e⟩ | ⟨k, c, e, z⟩
        · refine .inl ⟨k, ?_⟩
          have : y ≠ x := fun e => hj (nodup_ix hN e1 (e ▸ hi))
          simp [this, e]
        · exact .inr ⟨k, c, e, z.sameBut hs (cne y c e)⟩
    · obtain ⟨w', z⟩ := I.cell y c e
      exact ⟨w', z.sameBut hs (cne y c e)⟩
    · obtain ⟨e, n, ne, nf, d⟩ := I.pin p hp
      exact ⟨(hs.2 p.1 ne).trans e, n, ne, nf, d⟩
  · have hfn : X.fn x = true := by
      rcases hf with z | z
      · exact z
      · rw [z] at hk; cases hk
    obtain ⟨c, hc⟩ := I.ok.has x (.inl hk)
    obtain ⟨w', z⟩ := I.cell x c hc
    refine wpAny_storeName_cell I.ok.kind hk hc z (fun h' hc' hs => ?_)
    obtain ⟨oc, hoc, hocd⟩ := id z
    refine h { s with heap := h' } ⟨I.ok, I.os, I.bare, ⟨fun b o e n hb hx => ?_, fun b o e n hb hx => ?_, I.base.free, fun b o e hx => ?_, I.base.tups, I.base.frzs, I.base.tbls⟩, ⟨m, hn.sameBut hs (Ne.symm (cne x c hc)), fun j y v' e1 e2 e3 => ?_⟩, fun y c' e => ?_, I.free, I.freeC, fun p hp => ?_, tracked ⟨oc, hoc, I.freeC x c hc⟩ hs, by simpa using I.len⟩ ⟨c, hs, .inr hc⟩
    · exact (hs.2 b (Nat.ne_of_lt (Nat.lt_of_lt_of_le (Heap.lt_size e) (I.ok.cab x c hfn hc)))).trans (I.base.keep b o e n hb hx)
    · obtain ⟨sl, e1⟩ := I.base.slot b o e n hb hx
      exact ⟨sl, (hs.2 b (Nat.ne_of_lt (Nat.lt_of_lt_of_le (Heap.lt_size e) (I.ok.cab x c hfn hc)))).trans e1⟩
    · obtain ⟨o', e1⟩ := I.base.there b o e hx
      exact ⟨o', (hs.2 b (Nat.ne_of_lt (Nat.lt_of_lt_of_le (Heap.lt_size e) (I.ok.cab x c hfn hc)))).trans e1⟩
    · by_cases hj : j = i
      · subst hj
        rw [hi] at e1; cases e1
        rw [List.getElem?_set_self hiσ] at e2
        cases e2
        exact ⟨u, r, .inr ⟨.inl hk, c, hc, hc'⟩⟩
      · rw [List.getElem?_set_ne (Ne.symm hj)] at e2
        obtain ⟨u', r', q⟩ := hl j y v' e1 e2 e3
        refine ⟨u', r', ?_⟩
        rcases q with q | ⟨k, c', e, z'⟩
        · exact .inl q
        · refine .inr ⟨k, c', e, z'.sameBut hs ?_⟩
          rintro rfl
          exact hj (nodup_ix hN e1 (I.ok.inj _ _ _ e hc ▸ hi))
    · by_cases hcc : c' = c
      · subst hcc; exact ⟨_, hc'⟩
      · obtain ⟨w2, z2⟩ := I.cell y c' e
        exact ⟨w2, z2.sameBut hs hcc⟩
    · obtain ⟨e, n, ne, nf, d⟩ := I.pin p hp
      refine ⟨(hs.2 p.1 ?_).trans e, n, ne, nf, d⟩
      intro q
      rw [q, hoc] at e
      have q' : oc = p.2 := Option.some.inj e
      exact d w' (by rw [← q']; exact hocd)
theorem store_ok {M : Model} {A : Around} {E : Value → Shared → Prop} {i : Nat} {x : Str} {v : V} {u : Value} {Q : Unit → Shared → Prop} (I : Inv X pins σ H s) (hN : X.N.Nodup) (hi : X.N[i]? = some x) (hx : Loc X.env.scope x) (r : RelV v u)
    (h : ∀ s', Inv X pins (σ.set i (some v)) H s' → Q () s') (hf : X.fn x = true ∨ X.env.scope.names.lookup x = some .local := by first | exact .inl rfl | exact .inr rfl | assumption) : wpAny M A (storeName X.env x u) Q E s :=
  store_ok2 I hN hi hx r (fun s' I' _ => h s' I') hf
/-- behind a call or a block, the state as it is -/
theorem Inv.call' {s' : Shared} {ch : List Addr} (I : Inv X pins σ H s) (ho : s'.os = s.os) (u : Un (frs X.stack) ch H H' s.heap s'.heap) (hok : HOk X.prog X.w H' s'.heap) (hg : AllBare s'.gens)
    (hch : ∀ b ∈ ch, (b ∈ X.ex ∨ X.s₀.heap.objs.size ≤ b) ∧ b ≠ X.env.locals ∧ (∀ x c, X.env.cells.lookup x = some c → c ≠ b) ∧ ∀ p ∈ X.pn ++ pins, p.1 ≠ b) : Inv X pins σ H' s' := by
  obtain ⟨h', g', d', t', o'⟩ := s'
  have e : o' = s.os := ho
  subst e
  exact I.call (g' := g') (t' := t') (d' := d') u hok hg hch
end

/-! ### the judgements -/
/-- an exception: its class, its own dict's address (where it has one), the abstract heap behind it -/
abbrev XK := Value → Option Addr → Hp → Prop
abbrev St := List (Option V)
abbrev VK := V → Hp → Prop
/-- an expression's reading; a test's; an argument list's -/
abbrev TE := St → Hp → VK → Prop
abbrev TT := St → Hp → (Bool → Hp → Prop) → Prop
abbrev TA := St → Hp → (List V → Hp → Prop) → Prop
/-- what is wanted behind a statement -/
structure Ends where
  nx : St → Hp → Prop
  rt : VK
  bk : St → Hp → Prop := fun _ _ => False
  ct : St → Hp → Prop := fun _ _ => False
abbrev TS := Ends → St → Hp → Prop

def EP (X : Cx) (pins : List (Addr × Obj)) (σ : St) (Q : VK) (u : Value) (s' : Shared) : Prop := ∃ v H', Inv X pins σ H' s' ∧ RelV v u ∧ Q v H'
def TP (X : Cx) (pins : List (Addr × Obj)) (σ : St) (Q : Bool → Hp → Prop) (b : Bool) (s' : Shared) : Prop := ∃ H', Inv X pins σ H' s' ∧ Q b H'
def AP (X : Cx) (pins : List (Addr × Obj)) (σ : St) (Q : List V → Hp → Prop) (us : List Value) (s' : Shared) : Prop := ∃ vs H', Inv X pins σ H' s' ∧ Vals vs us ∧ Q vs H'
def SP (X : Cx) (pins : List (Addr × Obj)) (D : Ends) (f : Flow) (s' : Shared) : Prop :=
  match f with
  | .next => ∃ σ' H', Inv X pins σ' H' s' ∧ D.nx σ' H'
  | .brk => ∃ σ' H', Inv X pins σ' H' s' ∧ D.bk σ' H'
  | .cont => ∃ σ' H', Inv X pins σ' H' s' ∧ D.ct σ' H'
  | .ret u => ∃ v σ' H', Inv X pins σ' H' s' ∧ RelV v u ∧ D.rt v H'

def PE (X : Cx) (e : Expr) (t : TE) : Prop :=
  ∀ (pins : List (Addr × Obj)) (s : Shared) (σ : St) (H : Hp) (Q : VK), Inv X pins σ H s → t σ H Q → wpAny (model X.prog X.w) X.A (eval e X.env) (EP X pins σ Q) X.xe s
def PT (X : Cx) (e : Expr) (t : TT) : Prop :=
  ∀ (pins : List (Addr × Obj)) (s : Shared) (σ : St) (H : Hp) (Q : Bool → Hp → Prop), Inv X pins σ H s → t σ H Q → wpAny (model X.prog X.w) X.A (isTrue e X.env (eval e X.env)) (TP X pins σ Q) X.xe s
/-- a test whatever its 'whole' is (and, or) -/
def PW (X : Cx) (e : Expr) (t : TT) : Prop :=
  ∀ (whole : Sem Value) (pins : List (Addr × Obj)) (s : Shared) (σ : St) (H : Hp) (Q : Bool → Hp → Prop), Inv X pins σ H s → t σ H Q → wpAny (model X.prog X.w) X.A (isTrue e X.env whole) (TP X pins σ Q) X.xe s
theorem PW.pt {X : Cx} {e : Expr} {t : TT} (h : PW X e t) : PT X e t := h _
/-- an argument list (no star), from the left -/
def PA (X : Cx) (es : List Expr) (t : TA) : Prop :=
  ∀ (pos : Pos) (pins : List (Addr × Obj)) (s : Shared) (σ : St) (H : Hp) (Q : List V → Hp → Prop), Inv X pins σ H s → t σ H Q → wpAny (model X.prog X.w) X.A (spliced (backTo pos (starEach es X.env))) (AP X pins σ Q) X.xe s
def PS (X : Cx) (st : Stmt) (t : TS) : Prop :=
  ∀ (pins : List (Addr × Obj)) (s : Shared) (σ : St) (H : Hp) (D : Ends), Inv X pins σ H s → t D σ H → wpAny (model X.prog X.w) X.A (exec st X.env) (SP X pins D) X.xe s
def PSs (X : Cx) (st : List Stmt) (t : TS) : Prop :=
  ∀ (pins : List (Addr × Obj)) (s : Shared) (σ : St) (H : Hp) (D : Ends), Inv X pins σ H s → t D σ H → wpAny (model X.prog X.w) X.A (execs st X.env) (SP X pins D) X.xe s
/-- weaken the end -/
theorem thn {α : Type} {t : Sem α} {Q Q' : α → Shared → Prop} {M : Model} {A : Around} {E : Value → Shared → Prop} {s : Shared} (h : wpAny M A t Q E s) (hQ : ∀ a s, Q a s → Q' a s) : wpAny M A t Q' E s := wpAny_mono h hQ fun _ _ x => x
end L2

namespace L2
open PySem PySem.Spec PyProof.Rows
section
variable {X : Cx}

/-- two expressions in a row -/
theorem bin {a b : Expr} {ta tb : TE} (ha : PE X a ta) (hb : PE X b tb) {pins : List (Addr × Obj)} {s : Shared} {σ : St} {H : Hp} {R : V → V → Hp → Prop} (I : Inv X pins σ H s) (h : ta σ H fun x H1 => tb σ H1 fun y H2 => R x y H2)
    {α : Type} {Q : α → Shared → Prop} {f : Value → Value → Sem α}
    (hf : ∀ v u s2 x y H2, Inv X pins σ H2 s2 → RelV x v → RelV y u → R x y H2 → wpAny (model X.prog X.w) X.A (f v u) Q X.xe s2) :
    wpAny (model X.prog X.w) X.A (eval a X.env) (fun v s₁ => wpAny (model X.prog X.w) X.A (eval b X.env) (fun u s₂ => wpAny (model X.prog X.w) X.A (f v u) Q X.xe s₂) X.xe s₁) X.xe s := by
  refine thn (ha pins s σ H _ I h) fun v s1 ⟨x, H1, I1, r1, q1⟩ => ?_
  refine thn (hb pins s1 σ H1 _ I1 q1) fun u s2 ⟨y, H2, I2, r2, q2⟩ => ?_
  exact hf v u s2 x y H2 I2 r1 r2 q2

/-! ### names and constants -/
def tVar (i : Nat) : TE := fun σ H Q => ∃ v, σ[i]? = some (some v) ∧ Q v H
def tC (v : V) : TE := fun _ H Q => Q v H
theorem pe_var {i : Nat} {x : Str} {pos : Pos} (hN : X.N[i]? = some x) (hv : Vis X.env.scope x) (hd : (x == ("__debug__" : Str)) = false := by decide) (hcd : (x == ("__classdict__" : Str)) = false := by decide) : PE X (.Name x pos) (tVar i) := by
  intro pins s σ H Q I h
  obtain ⟨v, e, h⟩ := h
  obtain ⟨m, hn, hl⟩ := I.loc
  obtain ⟨u, r, l⟩ := hl i x v hN e hv
  have fin : EP X pins σ Q u s := ⟨v, H, I, r, h⟩
  rcases l with ⟨hk, hm⟩ | ⟨hk, c, hc, hcell⟩
  · exact wpAny_Name (wpAny_loadName_local I.ok.kind hk hn hm fin) hd
  · rcases hk with hk | hk
    · exact wpAny_Name (wpAny_loadName_cell I.ok.kind hk hc hcell fin) hd
    · exact wpAny_Name (wpAny_loadName_free I.ok.kind hk hc hcell fin hcd) hd
theorem pe_int {i j pos} : PE X (.Constant (.int i) j pos) (tC (.int i)) := fun _ _ _ H _ I h => wpAny_Constant_int ⟨.int i, H, I.tok _, ⟨_, rfl⟩, h⟩
theorem pe_bl {b j pos} : PE X (.Constant (.bool b) j pos) (tC (.bl b)) := fun _ _ _ H _ I h => Constant_bool ⟨.bl b, H, I, rfl, h⟩
theorem pe_non {j pos} : PE X (.Constant .none j pos) (tC .non) := fun _ _ _ H _ I h => Constant_none ⟨.non, H, I, rfl, h⟩
theorem pe_str {x j pos} : PE X (.Constant (.str x) j pos) (tC (.str x)) := fun _ _ _ H _ I h => Calls.Constant_str ⟨.str x, H, I.tok _, ⟨_, rfl⟩, h⟩

/-- a global name of the def -/
def Gl (X : Cx) (x : Str) : Prop := X.env.kindOf x = some .globalImplicit
theorem ld_glob {E : Value → Shared → Prop} {pins : List (Addr × Obj)} {s : Shared} {σ : St} {H : Hp} {x : Str} {u : Value} {pos : Pos} {Q : Value → Shared → Prop} (I : Inv X pins σ H s) (hg : Gl X x) (hm : X.mg x = some u) (h : Q u s)
    (hd : (x == ("__debug__" : Str)) = false := by decide) : wpAny (model X.prog X.w) X.A (eval (.Name x pos) X.env) Q E s :=
  Calls.Name_function_global I.ok.kind hg (Calls.loadGlobal_global (by rw [I.ok.glob]; exact I.mod.glob.keeps I.bk) hm h) hd
theorem ld_blt {E : Value → Shared → Prop} {pins : List (Addr × Obj)} {s : Shared} {σ : St} {H : Hp} {x : Str} {u : Value} {pos : Pos} {Q : Value → Shared → Prop} (I : Inv X pins σ H s) (hg : Gl X x) (hm : X.mg x = none) (hv : bootBuiltins x = some u) (h : Q u s)
    (hn : x ≠ "__name__" := by decide) (hd : (x == ("__debug__" : Str)) = false := by decide) : wpAny (model X.prog X.w) X.A (eval (.Name x pos) X.env) Q E s := by
  obtain ⟨mb, h1, h2⟩ := I.mod.blt
  exact Calls.Name_function_global I.ok.kind hg (Calls.loadGlobal_builtin (by rw [I.ok.glob]; exact I.mod.glob.keeps I.bk) hm (by rw [I.ok.blt]; exact h1.keeps I.bk) ((h2 x hn).trans hv) h) hd
/-- a module's constant, a class, a function, as a value -/
theorem pe_glob {x : Str} {v : V} {u : Value} {pos : Pos} (hg : Gl X x) (hm : X.mg x = some u) (r : RelV v u) (hd : (x == ("__debug__" : Str)) = false := by decide) : PE X (.Name x pos) (tC v) :=
  fun _ _ _ H _ I h => ld_glob I hg hm ⟨v, H, I, r, h⟩ hd
theorem pe_bltn {x : Str} {v : V} {u : Value} {pos : Pos} (hg : Gl X x) (hm : X.mg x = none) (hv : bootBuiltins x = some u) (r : RelV v u) (hn : x ≠ "__name__" := by decide) (hd : (x == ("__debug__" : Str)) = false := by decide) : PE X (.Name x pos) (tC v) :=
  fun _ _ _ H _ I h => ld_blt I hg hm hv ⟨v, H, I, r, h⟩ hn hd

/-! ### arithmetic -/
variable {a b : Expr} {ta tb : TE} {pos : Pos}

/-! ### comparisons -/
def PC (X : Cx) (op : CmpOp) (a b : Expr) (t : TE) : Prop :=
  ∀ (pins : List (Addr × Obj)) (s : Shared) (σ : St) (H : Hp) (Q : VK), Inv X pins σ H s → t σ H Q →
    wpAny (model X.prog X.w) X.A (eval a X.env) (fun v s₁ => wpAny (model X.prog X.w) X.A (eval b X.env) (fun u s₂ => wpAny (model X.prog X.w) X.A (compareOp op v u) (EP X pins σ Q) X.xe s₂) X.xe s₁) X.xe s
/-- a comparison as a value, as a test -/
def tB (t : TE) : TT := fun σ H Q => t σ H fun x H1 => ∃ c, x = .bl c ∧ Q c H1
theorem pt_cmp {op : CmpOp} {t : TE} (h : PC X op a b t) (h1 : behindInMarks op b = false := by first | exact nobehind _ (by decide) (by decide) | rfl) : PT X (.Compare a [op] [b] pos) (tB t) := by
  intro pins s σ H Q I hw
  refine wpAny_isTrue_Compare1 (thn (h pins s σ H _ I hw) fun v s1 h1 => thn h1 fun u s2 h2 => thn h2 fun c s3 ⟨x, H1, I1, r1, q1⟩ => ?_) h1
  obtain ⟨d, rfl, q⟩ := q1
  cases r1
  exact wpAny_truthy_bool ⟨H1, I1, q⟩
/-- an expression whose value is a bool, as a test -/
theorem pt_val {e : Expr} {t : TE} (h : PE X e t) (he : ∀ whole, isTrue e X.env whole = (do let v ← whole; standAt e.pos; holding [v] (truthy v)) := by intro _; rfl) : PT X e (tB t) := by
  intro pins s σ H Q I hw
  refine isTrue_plain (thn (h pins s σ H _ I hw) fun v s1 ⟨x, H1, I1, r1, q1⟩ => ?_) (he _)
  obtain ⟨d, rfl, q⟩ := q1
  cases r1
  exact wpAny_truthy_bool ⟨H1, I1, q⟩

/-! ### and, or, not -/
variable {tA tB' : TT} {rest : List Expr}
def tAnd (t u : TT) : TT := fun σ H Q => t σ H fun c H1 => if c = true then u σ H1 Q else Q false H1
def tOr (t u : TT) : TT := fun σ H Q => t σ H fun c H1 => if c = true then Q true H1 else u σ H1 Q
def tNot (t : TT) : TT := fun σ H Q => t σ H fun c H1 => Q (!c) H1
theorem pw_and1 (ha : PT X a tA) : PW X (.BoolOp .And [a] pos) tA := by
  intro wh pins s σ H Q I h
  refine isTrue_and (thn (ha pins s σ H Q I h) fun c s1 e => ?_)
  cases c with
  | true => exact isTrue_and_nil e
  | false => exact e
theorem pw_or1 (ha : PT X a tA) : PW X (.BoolOp .Or [a] pos) tA := by
  intro wh pins s σ H Q I h
  refine isTrue_or (thn (ha pins s σ H Q I h) fun c s1 e => ?_)
  cases c with
  | false => exact isTrue_or_nil e
  | true => exact e
theorem pw_and (ha : PT X a tA) (hb : PW X (.BoolOp .And (b :: rest) pos) tB') : PW X (.BoolOp .And (a :: b :: rest) pos) (tAnd tA tB') := by
  intro wh pins s σ H Q I h
  refine isTrue_and (thn (ha pins s σ H _ I h) fun c s1 ⟨H1, I1, q1⟩ => ?_)
  cases c with
  | true => exact hb wh pins s1 σ H1 Q I1 q1
  | false => exact ⟨H1, I1, q1⟩
theorem pw_or (ha : PT X a tA) (hb : PW X (.BoolOp .Or (b :: rest) pos) tB') : PW X (.BoolOp .Or (a :: b :: rest) pos) (tOr tA tB') := by
  intro wh pins s σ H Q I h
  refine isTrue_or (thn (ha pins s σ H _ I h) fun c s1 ⟨H1, I1, q1⟩ => ?_)
  cases c with
  | true => exact ⟨H1, I1, q1⟩
  | false => exact hb wh pins s1 σ H1 Q I1 q1
theorem pt_not (ha : PT X a tA) : PT X (.UnaryOp .Not a pos) (tNot tA) := by
  intro pins s σ H Q I h
  exact isTrue_not (ha pins s σ H (fun c H1 => Q (!c) H1) I h)
/-- .. as values (bools) -/
def tAndV (ta tb : TE) : TE := fun σ H Q => ta σ H fun x H1 => ∃ c, x = .bl c ∧ if c = true then tb σ H1 Q else Q (.bl false) H1
def tNotV (ta : TE) : TE := fun σ H Q => ta σ H fun x H1 => ∃ c, x = .bl c ∧ Q (.bl (!c)) H1
theorem pe_one {op} {t : TE} (h : PE X a t) : PE X (.BoolOp op [a] pos) t := fun pins s σ H Q I hw => BoolOp_one (h pins s σ H Q I hw)
theorem pe_and (ha : PE X a ta) (hb : PE X (.BoolOp .And (b :: rest) pos) tb) : PE X (.BoolOp .And (a :: b :: rest) pos) (tAndV ta tb) := by
  intro pins s σ H Q I h
  refine BoolOp_and (thn (ha pins s σ H _ I h) fun v s1 ⟨x, H1, I1, r1, q1⟩ => ?_)
  obtain ⟨c, rfl, q1⟩ := q1
  cases r1
  refine wpAny_truthy_bool ?_
  cases c with
  | true => exact hb pins s1 σ H1 Q I1 q1
  | false => exact ⟨.bl false, H1, I1, rfl, q1⟩
theorem pe_not (ha : PE X a ta) : PE X (.UnaryOp .Not a pos) (tNotV ta) := by
  intro pins s σ H Q I h
  refine UnaryOp_ (thn (ha pins s σ H _ I h) fun v s1 ⟨x, H1, I1, r1, q1⟩ => ?_)
  obtain ⟨c, rfl, q1⟩ := q1
  cases r1
  exact not_of (wpAny_truthy_bool ⟨.bl (!c), H1, I1, rfl, q1⟩)
/-- a if t else b -/
def tIf (t : TT) (ta tb : TE) : TE := fun σ H Q => t σ H fun c H1 => if c = true then ta σ H1 Q else tb σ H1 Q
theorem pe_ifExp {c : Expr} (hc : PT X c tA) (ha : PE X a ta) (hb : PE X b tb) : PE X (.IfExp c a b pos) (tIf tA ta tb) := by
  intro pins s σ H Q I h
  refine wpAny_IfExp (thn (hc pins s σ H _ I h) fun d s1 ⟨H1, I1, q1⟩ => ?_)
  cases d with
  | true => exact ha pins s1 σ H1 Q I1 q1
  | false => exact hb pins s1 σ H1 Q I1 q1
end
end L2

namespace L2
open PySem PySem.Spec PyProof.Rows

/-! ### a list, a tuple that is read: tracked, frozen, or an object of the module -/
def SqL (K : PySem.W.Frag) (H : Hp) (a : Addr) (xs : List V) : Prop :=
  Rd H a (.lst xs) ∨
    ∃ (o : Obj) (its : Array Value) (n : Nat), K.lookup a = some o ∧ o.cls = .type "list" ∧ o.dict = none ∧ o.data = .seq its n ∧ its.size ≤ sizeLine ∧ Vals xs its.toList
def SqT (K : PySem.W.Frag) (H : Hp) (a : Addr) (xs : List V) : Prop :=
  Rd H a (.tup xs) ∨
    ∃ (o : Obj) (its : Array Value) (n : Nat), K.lookup a = some o ∧ o.cls = .type "tuple" ∧ o.data = .seq its n ∧ its.size ≤ sizeLine ∧ Vals xs its.toList
def absV : Value → Option V
  | .none => some .non
  | .bool b => some (.bl b)
  | .int i _ => some (.int i)
  | .str x _ => some (.str x)
  | .bytes b _ => some (.byt b)
  | .float b _ => some (.flt b)
  | .ref a => some (.ref a)
  | .type n => some (.ty n)
  | _ => none
theorem RelV.abs {x : V} {u : Value} (r : RelV x u) : absV u = some x := by
  cases x with
  | non => cases r; rfl
  | bl _ => cases r; rfl
  | int _ => obtain ⟨t, rfl⟩ := r; rfl
  | str _ => obtain ⟨t, rfl⟩ := r; rfl
  | byt _ => obtain ⟨t, rfl⟩ := r; rfl
  | flt _ => obtain ⟨t, rfl⟩ := r; rfl
  | ref _ => cases r; rfl
  | ty _ => cases r; rfl
theorem RelV.inj {x y : V} {u : Value} (r : RelV x u) (q : RelV y u) : x = y := Option.some.inj (r.abs.symm.trans q.abs)
theorem Vals.inj : ∀ {xs ys : List V} {us : List Value}, Vals xs us → Vals ys us → xs = ys
  | _, _, _, .nil, .nil => rfl
  | _, _, _, .cons r t, .cons r' t' => by rw [r.inj r', Vals.inj t t']
section
variable {X : Cx} {pins : List (Addr × Obj)} {σ : St} {H : Hp} {s : Shared} {a : Addr} {xs ys : List V}
theorem SqL.of {K : PySem.W.Frag} (h : H a = some (.lst xs)) : SqL K H a xs := .inl (.inl h)
theorem SqT.of {K : PySem.W.Frag} (h : H a = some (.tup xs)) : SqT K H a xs := .inl (.inl h)
theorem Inv.list (I : Inv X pins σ H s) (h : SqL X.K H a xs) : ∃ its : List Value, Vals xs its ∧ PlainL s.heap a its.toArray ∧ xs.length ≤ sizeLine := by
  rcases h with h | ⟨o, its, n, hk, hc, hd, hs, hz, r⟩
  · obtain ⟨z, its, n, r, e⟩ := h.ok I.hok
    exact ⟨its, r, ⟨_, n, e, rfl, rfl, rfl⟩, z⟩
  · refine ⟨its.toList, r, ⟨o, n, I.kIn a o hk, hc, hd, by simpa using hs⟩, ?_⟩
    have e := r.length
    simp only [Array.length_toList] at e
    omega
theorem Inv.tuple (I : Inv X pins σ H s) (h : SqT X.K H a xs) : ∃ its : List Value, Vals xs its ∧ IsTup s.heap a its.toArray ∧ xs.length ≤ sizeLine := by
  rcases h with h | ⟨o, its, n, hk, hc, hs, hz, r⟩
  · obtain ⟨z, its, r, p⟩ := h.ok I.hok
    exact ⟨its, r, p, z⟩
  · refine ⟨its.toList, r, ⟨o, I.kIn a o hk, hc, n, by simpa using hs⟩, ?_⟩
    have e := r.length
    simp only [Array.length_toList] at e
    omega
theorem Inv.list_inj (I : Inv X pins σ H s) (h : SqL X.K H a xs) (h' : SqL X.K H a ys) : xs = ys := by
  obtain ⟨its, r, ⟨o, n, e, _, _, d⟩, _⟩ := I.list h
  obtain ⟨its', r', ⟨o', n', e', _, _, d'⟩, _⟩ := I.list h'
  rw [e] at e'; cases e'
  rw [d] at d'
  injection d' with d1 _
  have : its = its' := by simpa using congrArg Array.toList d1
  subst this
  exact r.inj r'
theorem Inv.tuple_inj (I : Inv X pins σ H s) (h : SqT X.K H a xs) (h' : SqT X.K H a ys) : xs = ys := by
  obtain ⟨its, r, ⟨o, e, _, n, d⟩, _⟩ := I.tuple h
  obtain ⟨its', r', ⟨o', e', _, n', d'⟩, _⟩ := I.tuple h'
  rw [e] at e'; cases e'
  rw [d] at d'
  injection d' with d1 _
  have : its = its' := by simpa using congrArg Array.toList d1
  subst this
  exact r.inj r'
end

/-! ### another wish about exceptions -/
abbrev Cx.wish (X : Cx) (E : Value → Shared → Prop) : Cx := { X with xe := E }
/-- no exception leaves -/
abbrev Cx.nox (X : Cx) : Cx := X.wish fun _ _ => False
theorem Cx.Ok.wish {X : Cx} (ok : X.Ok) (E : Value → Shared → Prop) : (X.wish E).Ok :=
  ⟨ok.mod, ok.kind, ok.glob, ok.blt, ok.above, ok.inj, ok.has, ok.cab, ok.hd, ok.frames, ok.stk, ok.exf, ok.bs, ok.bsz, ok.noex, ok.exfs, ok.funs, ok.frf⟩
theorem Cx.Ok.unwish {X : Cx} {E : Value → Shared → Prop} (ok : (X.wish E).Ok) : X.Ok :=
  ⟨ok.mod, ok.kind, ok.glob, ok.blt, ok.above, ok.inj, ok.has, ok.cab, ok.hd, ok.frames, ok.stk, ok.exf, ok.bs, ok.bsz, ok.noex, ok.exfs, ok.funs, ok.frf⟩
section
variable {X : Cx} {pins : List (Addr × Obj)} {σ : St} {H : Hp} {s : Shared} {E : Value → Shared → Prop}
theorem Inv.wish (I : Inv X pins σ H s) (E : Value → Shared → Prop) : Inv (X.wish E) pins σ H s := ⟨I.ok.wish E, I.os, I.bare, I.base, I.loc, I.cell, I.free, I.freeC, I.pin, I.hok, I.len⟩
theorem Inv.unwish (I : Inv (X.wish E) pins σ H s) : Inv X pins σ H s := ⟨I.ok.unwish, I.os, I.bare, I.base, I.loc, I.cell, I.free, I.freeC, I.pin, I.hok, I.len⟩
theorem SP.unwish {D : Ends} {f : Flow} {s' : Shared} (h : SP (X.wish E) pins D f s') : SP X pins D f s' := by
  cases f with
  | next => obtain ⟨σ', H', I, q⟩ := h; exact ⟨σ', H', I.unwish, q⟩
  | brk => obtain ⟨σ', H', I, q⟩ := h; exact ⟨σ', H', I.unwish, q⟩
  | cont => obtain ⟨σ', H', I, q⟩ := h; exact ⟨σ', H', I.unwish, q⟩
  | ret u => obtain ⟨v, σ', H', I, r, q⟩ := h; exact ⟨v, σ', H', I.unwish, r, q⟩
theorem PSs.nox {st : List Stmt} {t : TS} (h : PSs X.nox st t) : PSs X st t := fun pins s σ H D I hw =>
  wpAny_mono (h pins s σ H D (I.wish _) hw) (fun _ _ q => q.unwish) fun _ _ z => False.elim z
end

/-! ### blocks and small statements -/
section
variable {X : Cx} {st : Stmt} {rest : List Stmt} {t u : TS} {e : Expr} {te : TE} {pos : Pos}
def tNext : TS := fun D σ H => D.nx σ H
def tSeq (t u : TS) : TS := fun D σ H => t { D with nx := u D } σ H
theorem pss_nil : PSs X [] tNext := fun _ _ σ H _ I h => wpAny_execs_nil ⟨σ, H, I, h⟩
theorem pss_cons (h1 : PS X st t) (h2 : PSs X rest u) : PSs X (st :: rest) (tSeq t u) := by
  intro pins s σ H D I h
  refine wpAny_execs_cons (thn (h1 pins s σ H { D with nx := u D } I h) fun f s1 q => ?_)
  cases f with
  | next =>
    obtain ⟨σ', H', I', q⟩ := q
    exact h2 pins s1 σ' H' D I' q
  | ret v => exact q
  | brk => exact q
  | cont => exact q
theorem pss_one (h1 : PS X st t) : PSs X [st] t := by
  intro pins s σ H D I h
  refine wpAny_execs_cons (thn (h1 pins s σ H D I h) fun f s1 q => ?_)
  cases f with
  | next => exact wpAny_execs_nil q
  | ret v => exact q
  | brk => exact q
  | cont => exact q
/-- in a def's body nothing is shown -/
theorem Inv.quiet {pins : List (Addr × Obj)} {σ : St} {H : Hp} {s : Shared} (I : Inv X pins σ H s) : interactive X.env = false := by simp [interactive, I.ok.kind]
/-- an expression whose value is dropped -/
def tDrop (te : TE) : TS := fun D σ H => te σ H fun _ H1 => D.nx σ H1
theorem ps_expr (he : PE X e te) (hs : swapsWith e none pos.line X.env = pure false := by rfl) : PS X (.Expr e pos) (tDrop te) := by
  intro pins s σ H D I h
  exact wpAny_Expr_any (thn (he pins s σ H _ I h) fun v s1 ⟨x, H1, I1, r1, q1⟩ => ⟨σ, H1, I1, q1⟩) I.quiet hs
def tRet (te : TE) : TS := fun D σ H => te σ H D.rt
theorem ps_ret (he : PE X e te) : PS X (.Return (some e) pos) (tRet te) := by
  intro pins s σ H D I h
  exact wpAny_Return_some (thn (he pins s σ H _ I h) fun v s1 ⟨x, H1, I1, r1, q1⟩ => ⟨x, σ, H1, I1, r1, q1⟩)
def tIfS (c : TT) (t u : TS) : TS := fun D σ H => c σ H fun b H1 => if b = true then t D σ H1 else u D σ H1
theorem ps_if {c : Expr} {a b : List Stmt} {tc : TT} (hc : PT X c tc) (ha : PSs X a t) (hb : PSs X b u) : PS X (.If c a b pos) (tIfS tc t u) := by
  intro pins s σ H D I h
  refine wpAny_If (thn (hc pins s σ H _ I h) fun d s1 ⟨H1, I1, q1⟩ => ?_)
  cases d with
  | true => exact ha pins s1 σ H1 D I1 q1
  | false => exact hb pins s1 σ H1 D I1 q1
/-- code that the proof never comes to -/
def tNever : TS := fun _ _ _ => False
theorem pss_never {sts : List Stmt} : PSs X sts tNever := fun _ _ _ _ _ _ h => h.elim
end

/-! ### targets -/
abbrev TG := V → St → Hp → (St → Hp → Prop) → Prop
abbrev TGs := List V → St → Hp → (St → Hp → Prop) → Prop
def PG (X : Cx) (target : Expr) (t : TG) : Prop :=
  ∀ (pins : List (Addr × Obj)) (s : Shared) (σ : St) (H : Hp) (v : V) (u : Value) (Q : St → Hp → Prop), Inv X pins σ H s → RelV v u → t v σ H Q →
    wpAny (model X.prog X.w) X.A (assign target X.env u) (fun _ s' => ∃ σ' H', Inv X pins σ' H' s' ∧ Q σ' H') X.xe s
/-- several targets, one after another -/
def PGs (X : Cx) (ts : List Expr) (t : TGs) : Prop :=
  ∀ (pins : List (Addr × Obj)) (s : Shared) (σ : St) (H : Hp) (vs : List V) (us : List Value) (Q : St → Hp → Prop), Inv X pins σ H s → Vals vs us → t vs σ H Q →
    wpAny (model X.prog X.w) X.A (assignInOrder ((assignEach ts X.env).map (·.2)) us) (fun _ s' => ∃ σ' H', Inv X pins σ' H' s' ∧ Q σ' H') X.xe s
/-- o[i] = v, by values -/
abbrev TSet := V → V → V → Hp → (Hp → Prop) → Prop
def PSet (X : Cx) (t : TSet) : Prop :=
  ∀ (pins : List (Addr × Obj)) (s : Shared) (σ : St) (H : Hp) (o i v : V) (ov iv u : Value) (Q : Hp → Prop), Inv X pins σ H s → RelV o ov → RelV i iv → RelV v u → t o i v H Q →
    wpAny (model X.prog X.w) X.A (setItem ov iv u) (fun _ s' => ∃ H', Inv X pins σ H' s' ∧ Q H') X.xe s
section
variable {X : Cx} {pos : Pos}
def gName (i : Nat) : TG := fun v σ H Q => Q (σ.set i (some v)) H
theorem pg_name {i : Nat} {x : Str} (hN : X.N.Nodup) (hi : X.N[i]? = some x) (hx : Loc X.env.scope x) (hf : X.fn x = true ∨ X.env.scope.names.lookup x = some .local := by first | exact .inl rfl | exact .inr rfl | assumption) : PG X (.Name x pos) (gName i) := by
  intro pins s σ H v u Q I r h
  exact wpAny_assign_Name (store_ok I hN hi hx r (fun s' I' => ⟨_, H, I', h⟩) hf)
def gNil : TGs := fun vs σ H Q => vs = [] ∧ Q σ H
def gCons (t : TG) (u : TGs) : TGs := fun vs σ H Q => ∃ v r, vs = v :: r ∧ t v σ H fun σ' H' => u r σ' H' Q
theorem pgs_nil : PGs X [] gNil := by
  intro pins s σ H vs us Q I r h
  obtain ⟨e, h⟩ := h
  subst e
  cases r
  exact assignInOrder_nil ⟨σ, H, I, h⟩
theorem pgs_cons {e : Expr} {es : List Expr} {t : TG} {u : TGs} (h1 : PG X e t) (h2 : PGs X es u)
    (hs : (assignEach (e :: es) X.env).map (·.2) = assign e X.env :: (assignEach es X.env).map (·.2) := by rfl) : PGs X (e :: es) (gCons t u) := by
  intro pins s σ H vs us Q I r h
  obtain ⟨v, vr, e1, h⟩ := h
  subst e1
  cases r with
  | cons r rr =>
    rw [hs]
    refine assignInOrder_cons (thn (h1 pins s σ H _ _ _ I r h) fun _ s1 ⟨σ1, H1, I1, q1⟩ => ?_)
    exact h2 pins s1 σ1 H1 _ _ Q I1 rr q1
/-- (a, b, ..) = a tuple of that length -/
def gTup (K : PySem.W.Frag) (n : Nat) (t : TGs) : TG := fun v σ H Q => ∃ a xs, v = .ref a ∧ SqT K H a xs ∧ xs.length = n ∧ t xs σ H Q
theorem pg_tup {es : List Expr} {k : Nat} {t : TGs} {n : Nat} (hc : X.calm = true) (h : PGs X es t)
    (hn : (assignEach es X.env).length = n := by rfl) (hst : (assignEach es X.env).findIdx? (·.1) = none := by rfl) : PG X (.Tuple es k pos) (gTup X.K n t) := by
  intro pins s σ H v u Q I r hw
  obtain ⟨a, xs, e1, hq, hl, hw⟩ := hw
  subst e1
  cases r
  obtain ⟨its, rv, ht, hz⟩ := I.tuple hq
  refine assign_Tuple_tuple (I.ok.hd hc) ht (by simp [hn, ← hl, rv.length]) hst fun h' hx => ?_
  have I1 : Inv X pins σ H { s with heap := h' } := I.kept (t' := s.toks) fun b o e => hx b o (Nat.ne_of_lt (Heap.lt_size e)) e
  exact h pins _ σ H xs _ Q I1 (by simpa using rv) hw
/-- o[i] = .. -/
def gSub (to ti : TE) (t : TSet) : TG := fun v σ H Q => to σ H fun o H1 => ti σ H1 fun i H2 => t o i v H2 fun H3 => Q σ H3
theorem pg_sub {o i : Expr} {to ti : TE} {t : TSet} (ho : PE X o to) (hi : PE X i ti) (hs : PSet X t)
    (ha : ∀ v, assign (.Subscript o i pos) X.env v = (do
      let ov ← holding [v] (eval o X.env)
      let iv ← holding [v, ov] (eval i X.env)
      standAt pos
      holding [v, ov, iv] (setItem ov iv v)
      release [v, ov, iv] []) := by intro _; rfl) : PG X (.Subscript o i pos) (gSub to ti t) := by
  intro pins s σ H v u Q I r h
  rw [ha]
  refine wpAny_bind (wpAny_holding (thn (ho pins s σ H _ I h) fun ov s1 ⟨x, H1, I1, r1, q1⟩ => ?_))
  refine wpAny_bind (wpAny_holding (thn (hi pins s1 σ H1 _ I1 q1) fun iv s2 ⟨y, H2, I2, r2, q2⟩ => ?_))
  refine wpAny_bind (wpAny_standAt (wpAny_bind (wpAny_holding (thn (hs pins s2 σ H2 x y v ov iv u _ I2 r1 r2 r q2) fun _ s3 ⟨H3, I3, q3⟩ => ?_))))
  exact wpAny_release ⟨σ, H3, I3, q3⟩
/-- target = value -/
def tAsg (te : TE) (g : TG) : TS := fun D σ H => te σ H fun x H1 => g x σ H1 D.nx
theorem ps_asg {tg e : Expr} {te : TE} {g : TG} (he : PE X e te) (hg : PG X tg g) (hs : swapsWithSole [tg] e pos.line X.env = pure false := by rfl) (hw : swappedStores [tg] e X.env = pure none := by rfl)
    (h1 : (assignEach [tg] X.env).map (·.2) = [assign tg X.env] := by rfl) : PS X (.Assign [tg] e pos) (tAsg te g) := by
  intro pins s σ H D I h
  refine wpAny_Assign_stores (thn (he pins s σ H _ I h) fun v s1 ⟨x, H1, I1, r1, q1⟩ => ?_) hs hw
  rw [h1]
  exact thn (hg pins s1 σ H1 x v _ I1 r1 q1) fun _ s2 q => q
/-- name = value -/
theorem ps_set {i : Nat} {x : Str} {e : Expr} {te : TE} {pos' : Pos} (hN : X.N.Nodup) (hi : X.N[i]? = some x) (hx : Loc X.env.scope x) (he : PE X e te) (hs : swapsWith e (some (.Name x pos')) pos.line X.env = pure false := by rfl) (hf : X.fn x = true ∨ X.env.scope.names.lookup x = some .local := by first | exact .inl rfl | exact .inr rfl | assumption) :
    PS X (.Assign [.Name x pos'] e pos) (tAsg te (gName i)) := by
  intro pins s σ H D I h
  refine wpAny_Assign_Name (thn (he pins s σ H _ I h) fun v s1 ⟨y, H1, I1, r1, q1⟩ => ?_) hs
  exact store_ok I1 hN hi hx r1 (fun s2 I2 => ⟨_, H1, I2, q1⟩) hf
end

/-! ### while -/
section
variable {X : Cx} {pos : Pos}
/-- the invariant W with its measure -/
def tWhile (c : TT) (tb : TS) : TS := fun D σ H => ∃ W : Nat → St → Hp → Prop, (∃ m, W m σ H) ∧ ∀ m σ H, W m σ H →
  c σ H fun b H1 => if b = true then ∃ N : St → Hp → Prop, (∀ σ' H', N σ' H' → ∃ m', m' < m ∧ W m' σ' H') ∧ tb { D with nx := N, ct := N, bk := D.nx } σ H1 else D.nx σ H1
theorem ps_while {c : Expr} {body : List Stmt} {tc : TT} {tb : TS} (hp : PassesOwn (model X.prog X.w) X.A X.env X.xe) (hc : PT X c tc) (hb : PSs X body tb) : PS X (.While c body [] pos) (tWhile tc tb) := by
  intro pins s σ H D I h
  obtain ⟨W, ⟨m0, w0⟩, turn⟩ := h
  refine wpAny_While (codeAny_whileLoop (fun n s' => ∃ σ' H', Inv X pins σ' H' s' ∧ W n σ' H') ?_ m0 ⟨σ, H, I, w0⟩)
  rintro n s1 ⟨σ1, H1, I1, w1⟩
  refine wpAny_passesOwn hp (thn (hc pins s1 σ1 H1 _ I1 (turn n σ1 H1 w1)) fun b s2 ⟨H2, I2, q2⟩ => ?_)
  cases b with
  | true =>
    obtain ⟨N, hN, q2⟩ := q2
    rw [if_pos rfl]
    refine wpAny_passesOwn hp (thn (hb pins s2 σ1 H2 _ I2 q2) fun f s3 q3 => ?_)
    cases f with
    | next =>
      obtain ⟨σ3, H3, I3, n3⟩ := q3
      obtain ⟨m', hm, w3⟩ := hN σ3 H3 n3
      exact ⟨m', hm, σ3, H3, I3, w3⟩
    | cont =>
      obtain ⟨σ3, H3, I3, n3⟩ := q3
      obtain ⟨m', hm, w3⟩ := hN σ3 H3 n3
      exact ⟨m', hm, σ3, H3, I3, w3⟩
    | brk => exact q3
    | ret v => exact q3
  | false =>
    rw [if_neg Bool.false_ne_true]
    exact wpAny_execs_nil ⟨σ1, H2, I2, q2⟩
end

/-! ### what a loop or a comprehension walks -/
/-- at turn i: it yields x (the heap may grow), or it stops -/
structure It where
  go : Nat → Hp → Prop
  yld : Nat → Hp → V → Hp → Prop
  stop : Nat → Hp → Prop
/-- the iterator's own objects may turn: they are not the frame's, not pinned, younger than the entry (or a comprehension's own) -/
def FpOk (X : Cx) (pins : List (Addr × Obj)) (H : Hp) (b : Addr) : Prop :=
  H b = none ∧ b ≠ X.env.locals ∧ b ∉ X.fs ∧ (b ∈ X.ex ∨ X.s₀.heap.objs.size ≤ b) ∧ (∀ x c, X.env.cells.lookup x = some c → c ≠ b) ∧ ∀ p ∈ X.pn ++ pins, p.1 ≠ b
theorem Inv.fpOk {X : Cx} {pins : List (Addr × Obj)} {σ : St} {H H' : Hp} {s : Shared} {b : Addr} (I : Inv X pins σ H s) (hb : s.heap.objs.size ≤ b) (hn : H' b = none) : FpOk X pins H' b := by
  refine ⟨hn, Nat.ne_of_gt (Nat.lt_of_lt_of_le I.lt hb), I.nofs hb, .inr (Nat.le_trans I.sz hb), fun x c e z => ?_, fun p hp z => ?_⟩
  · obtain ⟨v, q⟩ := I.cell x c e
    exact absurd (Nat.lt_of_lt_of_le q.lt (by rw [z]; exact hb)) (Nat.lt_irrefl _)
  · exact absurd (Nat.lt_of_lt_of_le (Heap.lt_size (I.pin p hp).1) (by rw [z]; exact hb)) (Nat.lt_irrefl _)
structure Turn (P : Program) (w : World) (K : PySem.W.Frag) (tg : Expr) (J : It) (fp : List Addr) (it : Addr) (tn : Nat → Heap → Prop) : Prop where
  mem : it ∈ fp
  obj : ∀ i h, tn i h → ∀ b ∈ fp, ∃ o, h.get? b = some o ∧ ∀ v, o.data ≠ .cell v
  keep : ∀ i h h', tn i h → (∀ b ∈ fp, ∀ o, h.get? b = some o → h'.get? b = some o) → tn i h'
  item : ∀ (X : Cx), X.prog = P → X.w = w → X.K = K → X.calm = true → ∀ (i : Nat) (pins : List (Addr × Obj)) (s : Shared) (σ : St) (H : Hp) (E : Value → Shared → Prop), Inv X pins σ H s → (∀ b ∈ fp, FpOk X pins H b) → tn i s.heap → J.go i H →
    wpAny (model P w) X.A (pyNext (.ref it)) (fun r s1 => ∃ u, r = some u ∧
      wpAny (model P w) X.A (letOwnedTupleGo tg (.ref it) u) (fun _ s2 => ∃ x H', Inv X pins σ H' s2 ∧ RelV x u ∧ J.yld i H x H' ∧ tn (i + 1) s2.heap ∧ ∀ b ∈ fp, H' b = none) E s1) E s
  done : ∀ (X : Cx), X.prog = P → X.w = w → X.K = K → X.calm = true → ∀ (i : Nat) (pins : List (Addr × Obj)) (s : Shared) (σ : St) (H : Hp) (E : Value → Shared → Prop), Inv X pins σ H s → (∀ b ∈ fp, FpOk X pins H b) → tn i s.heap → J.stop i H →
    wpAny (model P w) X.A (pyNext (.ref it)) (fun r s1 => r = none ∧ Inv X pins σ H s1) E s
  self : ∀ (A : Around) (i : Nat) (s : Shared) (Q : Value → Shared → Prop) (E : Value → Shared → Prop), tn i s.heap → Q (.ref it) s → wpAny (model P w) A (pyIter (.ref it)) Q E s
abbrev TI := St → Hp → (It → Hp → Prop) → Prop
/-- an iterator has come -/
def PIE (X : Cx) (pins : List (Addr × Obj)) (σ : St) (tg : Expr) (R : It → Hp → Prop) (itv : Value) (s2 : Shared) : Prop :=
  ∃ (it : Addr) (fp : List Addr) (tn : Nat → Heap → Prop) (J : It) (H' : Hp), itv = .ref it ∧ Inv X pins σ H' s2 ∧ Turn X.prog X.w X.K tg J fp it tn ∧ tn 0 s2.heap ∧ (∀ b ∈ fp, FpOk X pins H' b) ∧ R J H'
def PI (X : Cx) (tg iter : Expr) (wi : TI) : Prop :=
  ∀ (pins : List (Addr × Obj)) (s : Shared) (σ : St) (H : Hp) (R : It → Hp → Prop), Inv X pins σ H s → wi σ H R →
    wpAny (model X.prog X.w) X.A (eval iter X.env) (fun v s1 => wpAny (model X.prog X.w) X.A (pyIter v) (PIE X pins σ tg R) X.xe s1) X.xe s

/-- the step ahead of the store is nothing for an iterator that keeps no tuple -/
theorem go_of {M : Model} {A : Around} {E : Value → Shared → Prop} {s : Shared} {tg : Expr} {it : Addr} {u : Value} {o : Obj} {n : String} {vs : Array Value} {Q : Unit → Shared → Prop} (ho : s.heap.get? it = some o) (hc : o.cls = .type n) (hd : o.data = .fields vs)
    (hn : ["enumerate", "zip", "dict_itemiterator", "dict_reverseitemiterator", "odict_iterator", "itertools.zip_longest", "itertools.pairwise"].contains n = false) (hQ : Q () s) : wpAny M A (letOwnedTupleGo tg (.ref it) u) Q E s := by
  unfold letOwnedTupleGo
  cases tg <;> first
    | exact wpAny_pure hQ
    | (cases u <;> first
        | exact wpAny_pure hQ
        | (refine wpAny_bind (wpAny_load ho ?_)
           rw [hc, hd]
           show wpAny M A (if (["enumerate", "zip", "dict_itemiterator", "dict_reverseitemiterator", "odict_iterator", "itertools.zip_longest", "itertools.pairwise"].contains n && vs[0]? == some (rawInt _)) = true then _ else _) Q E s
           rw [if_neg (by intro h; rw [hn, Bool.false_and] at h; cases h)]
           exact wpAny_pure hQ))

/-- the list at a, as it stands at each turn (a loop may append to it) -/
def Itl (K : PySem.W.Frag) (a : Addr) : It :=
  ⟨fun i H => ∃ xs x, SqL K H a xs ∧ xs[i]? = some x, fun i H x H' => H' = H ∧ ∀ xs, SqL K H a xs → xs[i]? = some x, fun i H => ∃ xs, SqL K H a xs ∧ xs.length ≤ i⟩
def Itt (K : PySem.W.Frag) (a : Addr) : It :=
  ⟨fun i H => ∃ xs x, SqT K H a xs ∧ xs[i]? = some x, fun i H x H' => H' = H ∧ ∀ xs, SqT K H a xs → xs[i]? = some x, fun i H => ∃ xs, SqT K H a xs ∧ xs.length ≤ i⟩
/-- lo, lo + 1, .. (n of them) -/
def Itr (lo : Int) (n : Nat) : It := ⟨fun i _ => i < n, fun i H x H' => H' = H ∧ x = .int (lo + i), fun i _ => n ≤ i⟩
theorem turn_list {P : Program} {w : World} {K : PySem.W.Frag} {tg : Expr} (a it : Addr) : Turn P w K tg (Itl K a) [it] it (fun i h => h.IsListIter it a i) where
  mem := by simp
  obj := fun i h st b hb => by
    have e : b = it := by simpa using hb
    subst e
    obtain ⟨o, e, c, d⟩ := st
    exact ⟨o, e, fun v z => by rw [d] at z; cases z⟩
  keep := fun i h h' st k => st.at fun o e => k it (by simp) o e
  item := by
    intro X hP hw hK hc i pins s σ H E I hf st hg
    subst hP hw hK
    obtain ⟨xs, x, hq, hx⟩ := hg
    obtain ⟨its, rv, p, hz⟩ := I.list hq
    obtain ⟨u, hu, ru⟩ := rv.get hx
    obtain ⟨f0, f1, f2, f3, f4, f5⟩ := hf it (by simp)
    refine wpAny_pyNext_list_item st p.isList (x := u) (by simpa using hu) fun h' st' sb => ?_
    have I1 : Inv X pins σ H { s with heap := h' } := I.turned (t' := s.toks) (fun b o hb e => (sb.2 b hb).trans e) f0 f1 f3 f4 f5
    obtain ⟨o, e, c, d⟩ := id st'
    exact ⟨u, rfl, go_of (s := { s with heap := h' }) e c d (by decide) ⟨x, H, I1, ru, ⟨rfl, fun ys hy => by rw [I.list_inj hy hq]; exact hx⟩, st', fun b hb => (hf b hb).1⟩⟩
  done := by
    intro X hP hw hK hc i pins s σ H E I hf st hg
    subst hP hw hK
    obtain ⟨xs, hq, hx⟩ := hg
    obtain ⟨its, rv, p, hz⟩ := I.list hq
    obtain ⟨f0, f1, f2, f3, f4, f5⟩ := hf it (by simp)
    have hl := rv.length
    exact wpAny_pyNext_list_end (I.ok.hd hc) st p.isList (by simp; omega) fun h' eb => ⟨rfl, I.turned (t' := s.toks) (fun b o hb e => eb b o hb e) f0 f1 f3 f4 f5⟩
  self := fun _ _ _ _ _ st h => wpAny_pyIter_listiter st h
theorem turn_tuple {P : Program} {w : World} {K : PySem.W.Frag} {tg : Expr} (a it : Addr) : Turn P w K tg (Itt K a) [it] it (fun i h => h.IsTupleIter it a i) where
  mem := by simp
  obj := fun i h st b hb => by
    have e : b = it := by simpa using hb
    subst e
    obtain ⟨o, e, c, d⟩ := st
    exact ⟨o, e, fun v z => by rw [d] at z; cases z⟩
  keep := fun i h h' st k => st.at fun o e => k it (by simp) o e
  item := by
    intro X hP hw hK hc i pins s σ H E I hf st hg
    subst hP hw hK
    obtain ⟨xs, x, hq, hx⟩ := hg
    obtain ⟨its, rv, p, hz⟩ := I.tuple hq
    obtain ⟨u, hu, ru⟩ := rv.get hx
    obtain ⟨f0, f1, f2, f3, f4, f5⟩ := hf it (by simp)
    refine wpAny_pyNext_tuple_item st (show s.heap.IsTuple a its.toArray from p) (x := u) (by simpa using hu) fun h' st' sb => ?_
    have I1 : Inv X pins σ H { s with heap := h' } := I.turned (t' := s.toks) (fun b o hb e => (sb.2 b hb).trans e) f0 f1 f3 f4 f5
    obtain ⟨o, e, c, d⟩ := id st'
    exact ⟨u, rfl, go_of (s := { s with heap := h' }) e c d (by decide) ⟨x, H, I1, ru, ⟨rfl, fun ys hy => by rw [I.tuple_inj hy hq]; exact hx⟩, st', fun b hb => (hf b hb).1⟩⟩
  done := by
    intro X hP hw hK hc i pins s σ H E I hf st hg
    subst hP hw hK
    obtain ⟨xs, hq, hx⟩ := hg
    obtain ⟨its, rv, p, hz⟩ := I.tuple hq
    obtain ⟨f0, f1, f2, f3, f4, f5⟩ := hf it (by simp)
    have hl := rv.length
    exact wpAny_pyNext_tuple_end (I.ok.hd hc) st (show s.heap.IsTuple a its.toArray from p) (by simp; omega) fun h' eb => ⟨rfl, I.turned (t' := s.toks) (fun b o hb e => eb b o hb e) f0 f1 f3 f4 f5⟩
  self := fun _ _ _ _ _ st h => wpAny_pyIter_tupleiter st h
theorem turn_range {P : Program} {w : World} {K : PySem.W.Frag} {tg : Expr} (it : Addr) (lo : Int) (n : Nat) : Turn P w K tg (Itr lo n) [it] it (fun i h => IsRangeIter h it (lo + (i : Nat) * 1) ((n : Int) - (i : Nat)) 1) where
  mem := by simp
  obj := fun i h st b hb => by
    have e : b = it := by simpa using hb
    subst e
    exact ⟨_, st, fun v z => by
      have z' : Data.fields _ = Data.cell v := z
      cases z'⟩
  keep := fun i h h' st k => k it (by simp) _ st
  item := by
    intro X hP hw hK hc i pins s σ H E I hf st hg
    subst hP hw hK
    obtain ⟨f0, f1, f2, f3, f4, f5⟩ := hf it (by simp)
    have W := Walks.range (prog := X.prog) (w := X.w) (I.ok.hd hc) it lo 1 n
    refine W.item i s _ _ hg st fun v h' tk hv st' kk => ?_
    obtain ⟨t, rfl⟩ := hv
    have I1 : Inv X pins σ H { s with heap := h', toks := tk } := I.turned (fun b o hb e => kk b o (by simpa using hb) e) f0 f1 f3 f4 f5
    refine ⟨_, rfl, go_of (s := { s with heap := h', toks := tk }) (n := "range_iterator") st' rfl rfl (by decide) ⟨.int (lo + i), H, I1, ⟨t, ?_⟩, ⟨rfl, rfl⟩, st', fun b hb => (hf b hb).1⟩⟩
    rw [Int.mul_one]
  done := by
    intro X hP hw hK hc i pins s σ H E I hf st hg
    subst hP hw hK
    obtain ⟨f0, f1, f2, f3, f4, f5⟩ := hf it (by simp)
    exact wpAny_pyNext_range_end (I.ok.hd hc) st (by have : n ≤ i := hg; omega) fun h' eb => ⟨rfl, I.turned (t' := s.toks) (fun b o hb e => eb b o hb e) f0 f1 f3 f4 f5⟩
  self := fun _ _ _ _ _ st h => wpAny_pyIter_rangeiter st h
end L2

namespace L2
open PySem PySem.Spec PyProof.Rows
section
variable {X : Cx} {tg : Expr}
def iList (K : PySem.W.Frag) (tl : TE) : TI := fun σ H R => tl σ H fun x H1 => ∃ a, x = .ref a ∧ (∃ xs, SqL K H1 a xs) ∧ R (Itl K a) H1
def iTup (K : PySem.W.Frag) (tl : TE) : TI := fun σ H R => tl σ H fun x H1 => ∃ a, x = .ref a ∧ (∃ xs, SqT K H1 a xs) ∧ R (Itt K a) H1
theorem pi_list {l : Expr} {tl : TE} (hl : PE X l tl) : PI X tg l (iList X.K tl) := by
  intro pins s σ H R I h
  refine thn (hl pins s σ H _ I h) fun v s1 ⟨x, H1, I1, r1, q1⟩ => ?_
  obtain ⟨a, e, ⟨xs, hq⟩, q⟩ := q1
  subst e
  cases r1
  obtain ⟨its, rv, p, hz⟩ := I1.list hq
  refine wpAny_pyIter_list p.isList ?_
  refine ⟨s1.heap.objs.size, [s1.heap.objs.size], _, _, H1, rfl, I1.kept (t' := s1.toks) fun b o e => Heap.get?_push_of_some _ e, turn_list a _, ⟨_, Heap.get?_push_size _ rfl, rfl, rfl⟩, fun b hb => ?_, q⟩
  have e : b = s1.heap.objs.size := by simpa using hb
  subst e
  exact I1.fpOk (Nat.le_refl _) (I1.hok.fresh (Nat.le_refl _))
theorem pi_tup {l : Expr} {tl : TE} (hl : PE X l tl) : PI X tg l (iTup X.K tl) := by
  intro pins s σ H R I h
  refine thn (hl pins s σ H _ I h) fun v s1 ⟨x, H1, I1, r1, q1⟩ => ?_
  obtain ⟨a, e, ⟨xs, hq⟩, q⟩ := q1
  subst e
  cases r1
  obtain ⟨its, rv, p, hz⟩ := I1.tuple hq
  refine wpAny_pyIter_tuple (show s1.heap.IsTuple a its.toArray from p) ?_
  refine ⟨s1.heap.objs.size, [s1.heap.objs.size], _, _, H1, rfl, I1.kept (t' := s1.toks) fun b o e => Heap.get?_push_of_some _ e, turn_tuple a _, ⟨_, Heap.get?_push_size _ rfl, rfl, rfl⟩, fun b hb => ?_, q⟩
  have e : b = s1.heap.objs.size := by simpa using hb
  subst e
  exact I1.fpOk (Nat.le_refl _) (I1.hok.fresh (Nat.le_refl _))
/-- a range object just made, walked -/
theorem range_it {pins : List (Addr × Obj)} {σ : St} {H : Hp} {s : Shared} {R : It → Hp → Prop} {E : Value → Shared → Prop} {lo hi : Int} {t u v : Tok} {tk : Nat} (I : Inv X pins σ H s) (h1 : -(2 ^ 62) ≤ lo) (h2 : lo < 2 ^ 62) (h3 : -(2 ^ 62) ≤ hi) (h4 : hi < 2 ^ 62)
    (q : R (Itr lo (hi - lo).toNat) H) : wpAny (model X.prog X.w) X.A (pyIter (.ref s.heap.objs.size)) (PIE X pins σ tg R) E { s with heap := s.heap.push { cls := .type "range", data := .fields #[.int lo t, .int hi u, .int 1 v] }, toks := tk } := by
  refine wpAny_pyIter_range (IsRange.new ..) (small_one h1 h2 h3 h4) ?_
  have I1 : Inv X pins σ H { s with heap := s.heap.push { cls := .type "range", data := .fields #[.int lo t, .int hi u, .int 1 v] }, toks := tk } := I.kept fun b o e => Heap.get?_push_of_some _ e
  refine ⟨(s.heap.push { cls := .type "range", data := .fields #[.int lo t, .int hi u, .int 1 v] }).objs.size, [(s.heap.push { cls := .type "range", data := .fields #[.int lo t, .int hi u, .int 1 v] }).objs.size], _, _, H, rfl,
    I1.kept (t' := tk) fun b o e => Heap.get?_push_of_some _ e, turn_range _ lo (hi - lo).toNat, ?_, fun b hb => ?_, q⟩
  · have e1 : lo + ((0 : Nat) : Int) * 1 = lo := by simp
    have e2 : (((hi - lo).toNat : Nat) : Int) - ((0 : Nat) : Int) = Builtin.Range.rangeSize lo hi 1 := by rw [rangeSize_one]; split <;> omega
    show IsRangeIter _ _ (lo + ((0 : Nat) : Int) * 1) ((((hi - lo).toNat : Nat) : Int) - ((0 : Nat) : Int)) 1
    rw [e1, e2]
    exact Heap.get?_push_size _ rfl
  · have e : b = (s.heap.push { cls := .type "range", data := .fields #[.int lo t, .int hi u, .int 1 v] }).objs.size := by simpa using hb
    subst e
    exact I1.fpOk (Nat.le_refl _) (I1.hok.fresh (Nat.le_refl _))
def iRng1 (ta : TA) : TI := fun σ H R => ta σ H fun vs H1 => ∃ j : Int, vs = [.int j] ∧ -(2 ^ 62) ≤ j ∧ j < 2 ^ 62 ∧ R (Itr 0 j.toNat) H1
theorem pi_range1 {a : Expr} {ta : TA} {p pos : Pos} (hg : Gl X "range") (hm : X.mg "range" = none) (ha : PA X [a] ta) (hs : starEach [a] X.env = [(false, eval a X.env)] := by rfl) : PI X tg (.Call (.Name "range" p) [a] [] pos) (iRng1 ta) := by
  intro pins s σ H R I h
  refine Call_ (ld_blt I hg hm boot_range (PyProof.Rows.callWith_type1 (thn (ha pos pins s σ H _ I h) fun us s1 ⟨vs, H1, I1, r1, q1⟩ => ?_) hs rfl))
  obtain ⟨j, e, q1, q2, q⟩ := q1
  subst e
  cases r1 with
  | cons r rr =>
    cases rr
    obtain ⟨t, rfl⟩ := r
    exact call_range_1 (range_it I1 (by omega) (by omega) q1 q2 (by simpa using q))

/-! ### for -/
/-- W: the invariant by the turn and a measure; N: what the body is to reach -/
def tFor (wi : TI) (g : TG) (tb : TS) : TS := fun D σ H => wi σ H fun J H1 => ∃ W : Nat → Nat → St → Hp → Prop, (∃ m, W 0 m σ H1) ∧ ∀ i m σ H, W i m σ H →
  (J.stop i H ∧ D.nx σ H) ∨ (J.go i H ∧ ∃ N : St → Hp → Prop, (∀ σ' H', N σ' H' → ∃ m', m' < m ∧ W (i + 1) m' σ' H') ∧ ∀ x H', J.yld i H x H' → g x σ H' fun σ2 H2 => tb { D with nx := N, ct := N, bk := D.nx } σ2 H2)
/-- the records at fp as they stand -/
def pinsAt (fp : List Addr) (h : Heap) : List (Addr × Obj) := fp.filterMap fun b => (h.get? b).map fun o => (b, o)
theorem mem_pinsAt {fp : List Addr} {h : Heap} {b : Addr} {o : Obj} (hb : b ∈ fp) (e : h.get? b = some o) : (b, o) ∈ pinsAt fp h := List.mem_filterMap.mpr ⟨b, hb, by rw [e]; rfl⟩
theorem of_pinsAt {fp : List Addr} {h : Heap} {p : Addr × Obj} (hp : p ∈ pinsAt fp h) : p.1 ∈ fp ∧ h.get? p.1 = some p.2 := by
  obtain ⟨b, hb, e⟩ := List.mem_filterMap.mp hp
  cases q : h.get? b with
  | none => rw [q] at e; cases e
  | some o =>
    rw [q] at e
    have e' : (b, o) = p := Option.some.inj e
    subst e'
    exact ⟨hb, q⟩
theorem Inv.pinned {pins : List (Addr × Obj)} {σ : St} {H : Hp} {s : Shared} {fp : List Addr} (I : Inv X pins σ H s) (hf : ∀ b ∈ fp, FpOk X pins H b) (ho : ∀ b ∈ fp, ∃ o, s.heap.get? b = some o ∧ ∀ v, o.data ≠ .cell v) : Inv X (pins ++ pinsAt fp s.heap) σ H s :=
  I.pins_of fun p hp => (List.mem_append.mp hp).elim (fun z => I.pin p (List.mem_append_right _ z)) fun z => by
    obtain ⟨hb, e⟩ := of_pinsAt z
    obtain ⟨f0, f1, f2, _⟩ := hf p.1 hb
    obtain ⟨o, e', d⟩ := ho p.1 hb
    rw [e] at e'; cases e'
    exact ⟨e, f0, f1, f2, d⟩
theorem Inv.unpinned {pins pl : List (Addr × Obj)} {σ : St} {H : Hp} {s : Shared} (I : Inv X (pins ++ pl) σ H s) : Inv X pins σ H s := I.pins_of fun p hp => I.pin p (List.mem_append_right _ (List.mem_append_left _ hp))
theorem ps_for {iter : Expr} {body : List Stmt} {wi : TI} {g : TG} {tb : TS} {pos : Pos} (hp : PassesOwn (model X.prog X.w) X.A X.env X.xe) (hc : X.calm = true) (hi : PI X tg iter wi) (hg : PG X tg g) (hb : PSs X body tb)
    (hs : ∀ x, foldedSetIterable iter X.env x = pure x := by intro _; rfl) : PS X (.For tg iter body [] pos) (tFor wi g tb) := by
  intro pins s σ H D I h
  refine wpAny_For (thn (hi pins s σ H _ I h) fun v s1 h1 => thn h1 fun itv s2 h2 => ?_) hs
  obtain ⟨it, fp, tn, J, H2, e, I2, T, st2, f2, W, ⟨m0, w0⟩, turn⟩ := h2
  subst e
  -- what stays true of the iterator's objects through the loop
  have stat : ∀ {H' : Hp}, (∀ b ∈ fp, H' b = none) → ∀ b ∈ fp, FpOk X pins H' b := fun hn b hb => ⟨hn b hb, (f2 b hb).2⟩
  refine codeAny_forLoop_any (fun n s' => ∃ i σ' H', Inv X pins σ' H' s' ∧ tn i s'.heap ∧ (∀ b ∈ fp, H' b = none) ∧ W i n σ' H') ?_ m0 ⟨0, σ, H2, I2, st2, fun b hb => (f2 b hb).1, w0⟩
  rintro n s3 ⟨i, σ3, H3, I3, st3, fr3, w3⟩
  rcases turn i n σ3 H3 w3 with ⟨stop, qn⟩ | ⟨go, N, hN, step⟩
  · refine wpAny_passesOwn hp (thn (T.done X rfl rfl rfl hc i pins s3 σ3 H3 X.xe I3 (stat fr3) st3 stop) fun r s4 ⟨hr, I4⟩ => ?_)
    subst hr
    exact wpAny_execs_nil ⟨σ3, H3, I4, qn⟩
  · refine wpAny_passesOwn hp (thn (T.item X rfl rfl rfl hc i pins s3 σ3 H3 X.xe I3 (stat fr3) st3 go) fun r s4 ⟨u, hr, h4⟩ => ?_)
    subst hr
    refine wpAny_passesOwn hp (thn h4 fun _ s5 ⟨x, H5, I5, r5, y5, st5, fr5⟩ => ?_)
    have I5' := I5.pinned (stat fr5) (T.obj _ _ st5)
    refine wpAny_passesOwn hp (thn (hg _ s5 σ3 H5 x u _ I5' r5 (step x H5 y5)) fun _ s6 ⟨σ6, H6, I6, q6⟩ => ?_)
    refine wpAny_passesOwn hp (thn (hb _ s6 σ6 H6 _ I6 q6) fun f s7 q7 => ?_)
    have again : ∀ {σ7 : St} {H7 : Hp}, Inv X (pins ++ pinsAt fp s5.heap) σ7 H7 s7 → N σ7 H7 → ∃ m, m < n ∧ ∃ i σ' H', Inv X pins σ' H' s7 ∧ tn i s7.heap ∧ (∀ b ∈ fp, H' b = none) ∧ W i m σ' H' := fun {σ7 H7} I7 n7 => by
      obtain ⟨m', hm, w7⟩ := hN σ7 H7 n7
      refine ⟨m', hm, i + 1, σ7, H7, I7.unpinned, T.keep _ _ _ st5 fun b hb o e => (I7.pin (b, o) (List.mem_append_right _ (List.mem_append_right _ (mem_pinsAt hb e)))).1, fun b hb => ?_, w7⟩
      obtain ⟨o, e, d⟩ := T.obj _ _ st5 b hb
      exact (I7.pin (b, o) (List.mem_append_right _ (List.mem_append_right _ (mem_pinsAt hb e)))).2.1
    cases f with
    | next => obtain ⟨σ7, H7, I7, n7⟩ := q7; exact again I7 n7
    | cont => obtain ⟨σ7, H7, I7, n7⟩ := q7; exact again I7 n7
    | brk => obtain ⟨σ7, H7, I7, q7⟩ := q7; exact ⟨σ7, H7, I7.unpinned, q7⟩
    | ret v => obtain ⟨x7, σ7, H7, I7, r7, q7⟩ := q7; exact ⟨x7, σ7, H7, I7.unpinned, r7, q7⟩
end

/-! ### the forms one uses -/
/-- over a list that the body leaves as it is -/
theorem for_list {K : PySem.W.Frag} {a : Addr} {xs : List V} {g : TG} {tb : TS} {D : Ends} {σ : St} {H : Hp} (Pv : Nat → St → Hp → Prop) (h0 : Pv 0 σ H) (hl : ∀ i σ H, i ≤ xs.length → Pv i σ H → SqL K H a xs)
    (hs : ∀ i x σ H, xs[i]? = some x → Pv i σ H → g x σ H fun σ2 H2 => tb { D with nx := Pv (i + 1), ct := Pv (i + 1), bk := D.nx } σ2 H2) (hd : ∀ σ H, Pv xs.length σ H → D.nx σ H) :
    ∃ W : Nat → Nat → St → Hp → Prop, (∃ m, W 0 m σ H) ∧ ∀ i m σ H, W i m σ H →
      ((Itl K a).stop i H ∧ D.nx σ H) ∨ ((Itl K a).go i H ∧ ∃ N : St → Hp → Prop, (∀ σ' H', N σ' H' → ∃ m', m' < m ∧ W (i + 1) m' σ' H') ∧ ∀ x H', (Itl K a).yld i H x H' → g x σ H' fun σ2 H2 => tb { D with nx := N, ct := N, bk := D.nx } σ2 H2) := by
  refine ⟨fun i m σ H => m = xs.length - i ∧ i ≤ xs.length ∧ Pv i σ H, ⟨xs.length, by simp, Nat.zero_le _, h0⟩, ?_⟩
  rintro i m σ H ⟨rfl, hi, p⟩
  have q := hl i σ H hi p
  by_cases hlt : i < xs.length
  · refine .inr ⟨⟨xs, xs[i], q, by simp [hlt]⟩, Pv (i + 1), fun σ' H' p' => ⟨xs.length - (i + 1), by omega, rfl, hlt, p'⟩, fun x H' y => ?_⟩
    obtain ⟨e, y⟩ := y
    subst e
    exact hs i x σ _ (y xs q) p
  · have e : i = xs.length := by omega
    subst e
    exact .inl ⟨⟨xs, q, Nat.le_refl _⟩, hd σ H p⟩
theorem for_tup {K : PySem.W.Frag} {a : Addr} {xs : List V} {g : TG} {tb : TS} {D : Ends} {σ : St} {H : Hp} (Pv : Nat → St → Hp → Prop) (h0 : Pv 0 σ H) (hl : ∀ i σ H, i ≤ xs.length → Pv i σ H → SqT K H a xs)
    (hs : ∀ i x σ H, xs[i]? = some x → Pv i σ H → g x σ H fun σ2 H2 => tb { D with nx := Pv (i + 1), ct := Pv (i + 1), bk := D.nx } σ2 H2) (hd : ∀ σ H, Pv xs.length σ H → D.nx σ H) :
    ∃ W : Nat → Nat → St → Hp → Prop, (∃ m, W 0 m σ H) ∧ ∀ i m σ H, W i m σ H →
      ((Itt K a).stop i H ∧ D.nx σ H) ∨ ((Itt K a).go i H ∧ ∃ N : St → Hp → Prop, (∀ σ' H', N σ' H' → ∃ m', m' < m ∧ W (i + 1) m' σ' H') ∧ ∀ x H', (Itt K a).yld i H x H' → g x σ H' fun σ2 H2 => tb { D with nx := N, ct := N, bk := D.nx } σ2 H2) := by
  refine ⟨fun i m σ H => m = xs.length - i ∧ i ≤ xs.length ∧ Pv i σ H, ⟨xs.length, by simp, Nat.zero_le _, h0⟩, ?_⟩
  rintro i m σ H ⟨rfl, hi, p⟩
  have q := hl i σ H hi p
  by_cases hlt : i < xs.length
  · refine .inr ⟨⟨xs, xs[i], q, by simp [hlt]⟩, Pv (i + 1), fun σ' H' p' => ⟨xs.length - (i + 1), by omega, rfl, hlt, p'⟩, fun x H' y => ?_⟩
    obtain ⟨e, y⟩ := y
    subst e
    exact hs i x σ _ (y xs q) p
  · have e : i = xs.length := by omega
    subst e
    exact .inl ⟨⟨xs, q, Nat.le_refl _⟩, hd σ H p⟩
end L2

namespace L2
open PySem PySem.Spec PyProof.Rows

abbrev R2 := V → V → Hp → VK → Prop
/-- a two-place operation on values: f is binaryOp op, inplaceOp op or compareOp op -/
def OpR (X : Cx) (f : Value → Value → Sem Value) (r : R2) : Prop :=
  ∀ (pins : List (Addr × Obj)) (s : Shared) (σ : St) (H : Hp) (x y : V) (v u : Value) (Q : VK), Inv X pins σ H s → RelV x v → RelV y u → r x y H Q →
    wpAny (model X.prog X.w) X.A (f v u) (EP X pins σ Q) X.xe s
/-- a one-place operation -/
def UnR (X : Cx) (f : Value → Sem Value) (r : V → Hp → VK → Prop) : Prop :=
  ∀ (pins : List (Addr × Obj)) (s : Shared) (σ : St) (H : Hp) (x : V) (v : Value) (Q : VK), Inv X pins σ H s → RelV x v → r x H Q →
    wpAny (model X.prog X.w) X.A (f v) (EP X pins σ Q) X.xe s
/-- a call of a value that is known (a builtin, a type) with values -/
def CallR (X : Cx) (f : Value) (r : List V → Hp → VK → Prop) : Prop :=
  ∀ (pins : List (Addr × Obj)) (s : Shared) (σ : St) (H : Hp) (xs : List V) (us : List Value) (Q : VK), Inv X pins σ H s → Vals xs us → r xs H Q →
    wpAny (model X.prog X.w) X.A (call f us) (EP X pins σ Q) X.xe s

def tOp (r : R2) (ta tb : TE) : TE := fun σ H Q => ta σ H fun x H1 => tb σ H1 fun y H2 => r x y H2 Q
def tUn (r : V → Hp → VK → Prop) (ta : TE) : TE := fun σ H Q => ta σ H fun x H1 => r x H1 Q
/-- ints in, under C, and a value out -/
def rI (C : Int → Int → Prop) (g : Int → Int → V) : R2 := fun x y H Q => ∃ i j, x = .int i ∧ y = .int j ∧ C i j ∧ Q (g i j) H
def rI0 (g : Int → Int → V) : R2 := fun x y H Q => ∃ i j, x = .int i ∧ y = .int j ∧ Q (g i j) H
def rU (g : Int → V) : V → Hp → VK → Prop := fun x H Q => ∃ i, x = .int i ∧ Q (g i) H

section
variable {X : Cx} {a b c : Expr} {ta tb tc : TE} {pos : Pos}

theorem binT (ha : PE X a ta) (hb : PE X b tb) {pins : List (Addr × Obj)} {s : Shared} {σ : St} {H : Hp} {R : V → V → Hp → Prop} (I : Inv X pins σ H s)
    (h : ta σ H fun x H1 => tb σ H1 fun y H2 => R x y H2) {Q : Value → Shared → Prop} {f : Value → Value → Sem Value}
    (hf : ∀ v u s2 x y H2, Inv X pins σ H2 s2 → RelV x v → RelV y u → R x y H2 → wpAny (model X.prog X.w) X.A (f v u) Q X.xe s2) :
    wpAny (model X.prog X.w) X.A (eval a X.env) (fun v s₁ => wpAny (model X.prog X.w) X.A (eval b X.env) (fun u s₂ => wpAny (model X.prog X.w) X.A (f v u) Q X.xe s₂) X.xe s₁) X.xe s := by
  refine thn (ha pins s σ H _ I h) fun v s1 ⟨x, H1, I1, r1, q1⟩ => ?_
  refine thn (hb pins s1 σ H1 _ I1 q1) fun u s2 ⟨y, H2, I2, r2, q2⟩ => ?_
  exact hf v u s2 x y H2 I2 r1 r2 q2

theorem pe_op {op : Operator} {r : R2} (ho : OpR X (binaryOp op) r) (ha : PE X a ta) (hb : PE X b tb) : PE X (.BinOp a op b pos) (tOp r ta tb) := by
  intro pins s σ H Q I h
  exact wpAny_BinOp (binT ha hb I h fun v u s2 x y H2 I2 rx ry q => ho pins s2 σ H2 x y v u Q I2 rx ry q)
theorem pe_un {op : UnaryOp} {r : V → Hp → VK → Prop} (ho : UnR X (unaryOp op) r) (ha : PE X a ta) : PE X (.UnaryOp op a pos) (tUn r ta) := by
  intro pins s σ H Q I h
  exact UnaryOp_ (thn (ha pins s σ H _ I h) fun v s1 ⟨x, H1, I1, r1, q1⟩ => ho pins s1 σ H1 x v Q I1 r1 q1)

/-! ### ints -/
theorem opI {f : Value → Value → Sem Value} {C : Int → Int → Prop} {g : Int → Int → Int}
    (rule : ∀ (i j : Int) (t u : Tok) (s : Shared) (Q : Value → Shared → Prop) (E : Value → Shared → Prop), C i j → Q (.int (g i j) s.toks) { s with toks := s.toks + 1 } → wpAny (model X.prog X.w) X.A (f (.int i t) (.int j u)) Q E s) :
    OpR X f (rI C fun i j => .int (g i j)) := by
  intro pins s σ H x y v u Q I rx ry h
  obtain ⟨i, j, rfl, rfl, hc, q⟩ := h
  obtain ⟨t, rfl⟩ := rx
  obtain ⟨t', rfl⟩ := ry
  exact rule i j t t' s _ _ hc ⟨.int (g i j), H, I.tok _, ⟨_, rfl⟩, q⟩
theorem opI0 {f : Value → Value → Sem Value} {g : Int → Int → Int}
    (rule : ∀ (i j : Int) (t u : Tok) (s : Shared) (Q : Value → Shared → Prop) (E : Value → Shared → Prop), Q (.int (g i j) s.toks) { s with toks := s.toks + 1 } → wpAny (model X.prog X.w) X.A (f (.int i t) (.int j u)) Q E s) :
    OpR X f (rI0 fun i j => .int (g i j)) := by
  intro pins s σ H x y v u Q I rx ry h
  obtain ⟨i, j, rfl, rfl, q⟩ := h
  obtain ⟨t, rfl⟩ := rx
  obtain ⟨t', rfl⟩ := ry
  exact rule i j t t' s _ _ ⟨.int (g i j), H, I.tok _, ⟨_, rfl⟩, q⟩
theorem opB0 {f : Value → Value → Sem Value} {g : Int → Int → Bool}
    (rule : ∀ (i j : Int) (t u : Tok) (s : Shared) (Q : Value → Shared → Prop) (E : Value → Shared → Prop), Q (.bool (g i j)) s → wpAny (model X.prog X.w) X.A (f (.int i t) (.int j u)) Q E s) :
    OpR X f (rI0 fun i j => .bl (g i j)) := by
  intro pins s σ H x y v u Q I rx ry h
  obtain ⟨i, j, rfl, rfl, q⟩ := h
  obtain ⟨t, rfl⟩ := rx
  obtain ⟨t', rfl⟩ := ry
  exact rule i j t t' s _ _ ⟨.bl (g i j), H, I, rfl, q⟩

def CDiv (i j : Int) : Prop := 0 < j ∧ j < 1073741824
def CPow (i j : Int) : Prop := 0 ≤ j ∧ j ≤ 1000000 ∧ i.natAbs < 2 ^ 64
def CMul (i j : Int) : Prop := (-(2 ^ 64) < i ∧ i < 2 ^ 64) ∨ (-(2 ^ 64) < j ∧ j < 2 ^ 64)
theorem CMul.ok {i j : Int} (h : CMul i j) : IntMulOk i j := by
  rcases h with ⟨h1, h2⟩ | ⟨h1, h2⟩
  · exact .of_left (intBits_le_64 h1 h2)
  · exact .of_right (intBits_le_64 h1 h2)

theorem op_add : OpR X (binaryOp .Add) (rI0 fun i j => .int (i + j)) := opI0 fun _ _ _ _ _ _ _ q => add_int q
theorem op_sub : OpR X (binaryOp .Sub) (rI0 fun i j => .int (i - j)) := opI0 fun _ _ _ _ _ _ _ q => sub_int q
theorem op_mul : OpR X (binaryOp .Mult) (rI CMul fun i j => .int (i * j)) := opI fun _ _ _ _ _ _ _ hc q => mul_int q hc.ok
/-- // by a positive divisor -/
theorem op_fdiv : OpR X (binaryOp .FloorDiv) (rI CDiv fun i j => .int (i / j)) := opI fun i j _ _ _ _ _ hc q => by
  have h1 : (0 : Int) < j := hc.1
  have h2 : j < 1073741824 := hc.2
  exact floordiv_int (by omega) (by rw [Int.fdiv_eq_ediv_of_nonneg i (by omega)]; exact q) (.inl (PyProof.noPylong_small (by omega)))
/-- % by a positive divisor of any size -/
theorem op_mod : OpR X (binaryOp .Mod) (rI (fun _ j => 0 < j) fun i j => .int (i % j)) := opI fun i j _ _ _ _ _ hc q => by
  have h1 : (0 : Int) < j := hc
  exact mod_int' (by omega) (by rw [Int.fmod_eq_emod_of_nonneg i (by omega)]; exact q)
theorem op_pow : OpR X (binaryOp .Pow) (rI CPow fun i j => .int (i ^ j.toNat)) := opI fun _ _ _ _ _ _ _ hc q => pow_int_small hc.1 hc.2.1 hc.2.2 q


theorem unI {f : Value → Sem Value} {g : Int → Int}
    (rule : ∀ (i : Int) (t : Tok) (s : Shared) (Q : Value → Shared → Prop) (E : Value → Shared → Prop), Q (.int (g i) s.toks) { s with toks := s.toks + 1 } → wpAny (model X.prog X.w) X.A (f (.int i t)) Q E s) :
    UnR X f (rU fun i => .int (g i)) := by
  intro pins s σ H x v Q I rx h
  obtain ⟨i, rfl, q⟩ := h
  obtain ⟨t, rfl⟩ := rx
  exact rule i t s _ _ ⟨.int (g i), H, I.tok _, ⟨_, rfl⟩, q⟩
theorem un_neg : UnR X (unaryOp .USub) (rU fun i => .int (-i)) := unI fun _ _ _ _ _ q => neg_int q

/-! ### bools among ints: n += (a < b) -/
end

/-! ### comparisons -/
/-- the scalars that == tells apart as data does -/
def scal : V → V → Bool
  | .non, .non => true | .non, .int _ => true | .int _, .non => true | .non, .bl _ => true | .bl _, .non => true | .non, .str _ => true | .str _, .non => true
  | .int _, .int _ => true | .bl _, .bl _ => true | .str _, .str _ => true | .byt _, .byt _ => true
  | .int _, .str _ => true | .str _, .int _ => true | .bl _, .str _ => true | .str _, .bl _ => true
  | _, _ => false
def rEq : R2 := fun x y H Q => scal x y = true ∧ Q (.bl (decide (x = y))) H
def rNe : R2 := fun x y H Q => scal x y = true ∧ Q (.bl (!decide (x = y))) H

theorem dec_int {i j : Int} : decide (V.int i = V.int j) = (i == j) := by
  rw [Bool.eq_iff_iff]
  simp
theorem dec_bl {i j : Bool} : decide (V.bl i = V.bl j) = (i == j) := by
  rw [Bool.eq_iff_iff]
  simp
theorem dec_str {i j : Str} : decide (V.str i = V.str j) = (i == j) := by
  rw [Bool.eq_iff_iff]
  simp
theorem dec_byt {i j : Array UInt8} : decide (V.byt i = V.byt j) = (i.toList == j.toList) := by
  rw [Bool.eq_iff_iff]
  cases i
  cases j
  simp

section
variable {X : Cx} {a b c : Expr} {ta tb tc : TE} {pos : Pos}
theorem fin_bl {pins : List (Addr × Obj)} {σ : St} {H : Hp} {s : Shared} {Q : VK} {k k' : Bool} (I : Inv X pins σ H s) (q : Q (.bl k) H) (e : k = k') : EP X pins σ Q (.bool k') s := by
  subst e
  exact ⟨.bl k, H, I, rfl, q⟩
theorem op_eq : OpR X (compareOp .Eq) rEq := by
  intro pins s σ H x y v u Q I rx ry h
  obtain ⟨hs, q⟩ := h
  cases x with
  | non =>
    cases rx
    cases y with
    | non => cases ry; exact PySem.EqNone.eq_none_none (fin_bl I q (by simp))
    | bl j => cases ry; exact PySem.EqNone.eq_none_bool (fin_bl I q (by simp))
    | int j => obtain ⟨t', rfl⟩ := ry; exact PySem.EqNone.eq_none_int (fin_bl I q (by simp))
    | str j => obtain ⟨t', rfl⟩ := ry; exact PySem.EqNone.eq_none_str (fin_bl I q (by simp))
    | _ => exact absurd (show false = true from hs) Bool.false_ne_true
  | bl i =>
    cases rx
    cases y with
    | non => cases ry; exact PySem.EqNone.eq_bool_none (fin_bl I q (by simp))
    | bl j => cases ry; exact eq_bool (fin_bl I q dec_bl)
    | str j => obtain ⟨t', rfl⟩ := ry; exact PySem.EqMixed.eq_bool_str (fin_bl I q (by simp))
    | _ => exact absurd (show false = true from hs) Bool.false_ne_true
  | int i =>
    obtain ⟨t, rfl⟩ := rx
    cases y with
    | non => cases ry; exact PySem.EqNone.eq_int_none (fin_bl I q (by simp))
    | int j => obtain ⟨t', rfl⟩ := ry; exact eq_int (fin_bl I q dec_int)
    | str j => obtain ⟨t', rfl⟩ := ry; exact PySem.EqMixed.eq_int_str (fin_bl I q (by simp))
    | _ => exact absurd (show false = true from hs) Bool.false_ne_true
  | str i =>
    obtain ⟨t, rfl⟩ := rx
    cases y with
    | non => cases ry; exact PySem.EqNone.eq_str_none (fin_bl I q (by simp))
    | bl j => cases ry; exact PySem.EqMixed.eq_str_bool (fin_bl I q (by simp))
    | int j => obtain ⟨t', rfl⟩ := ry; exact PySem.EqMixed.eq_str_int (fin_bl I q (by simp))
    | str j => obtain ⟨t', rfl⟩ := ry; exact eq_str (fin_bl I q dec_str)
    | _ => exact absurd (show false = true from hs) Bool.false_ne_true
  | byt i =>
    obtain ⟨t, rfl⟩ := rx
    cases y with
    | byt j => obtain ⟨t', rfl⟩ := ry; exact PySem.W.eq_bytes (fin_bl I q dec_byt)
    | _ => exact absurd (show false = true from hs) Bool.false_ne_true
  | _ => cases y <;> exact absurd (show false = true from hs) Bool.false_ne_true
theorem op_ne : OpR X (compareOp .NotEq) rNe := by
  intro pins s σ H x y v u Q I rx ry h
  obtain ⟨hs, q⟩ := h
  cases x with
  | non =>
    cases rx
    cases y with
    | non => cases ry; exact PySem.EqNone.ne_none_none (fin_bl I q (by simp))
    | bl j => cases ry; exact PySem.EqNone.ne_none_bool (fin_bl I q (by simp))
    | int j => obtain ⟨t', rfl⟩ := ry; exact PySem.EqNone.ne_none_int (fin_bl I q (by simp))
    | str j => obtain ⟨t', rfl⟩ := ry; exact PySem.EqNone.ne_none_str (fin_bl I q (by simp))
    | _ => exact absurd (show false = true from hs) Bool.false_ne_true
  | bl i =>
    cases rx
    cases y with
    | non => cases ry; exact PySem.EqNone.ne_bool_none (fin_bl I q (by simp))
    | bl j => cases ry; exact ne_bool (fin_bl I q (congrArg not dec_bl))
    | str j => obtain ⟨t', rfl⟩ := ry; exact PySem.EqMixed.ne_bool_str (fin_bl I q (by simp))
    | _ => exact absurd (show false = true from hs) Bool.false_ne_true
  | int i =>
    obtain ⟨t, rfl⟩ := rx
    cases y with
    | non => cases ry; exact PySem.EqNone.ne_int_none (fin_bl I q (by simp))
    | int j => obtain ⟨t', rfl⟩ := ry; exact ne_int (fin_bl I q (congrArg not dec_int))
    | str j => obtain ⟨t', rfl⟩ := ry; exact PySem.EqMixed.ne_int_str (fin_bl I q (by simp))
    | _ => exact absurd (show false = true from hs) Bool.false_ne_true
  | str i =>
    obtain ⟨t, rfl⟩ := rx
    cases y with
    | non => cases ry; exact PySem.EqNone.ne_str_none (fin_bl I q (by simp))
    | bl j => cases ry; exact PySem.EqMixed.ne_str_bool (fin_bl I q (by simp))
    | int j => obtain ⟨t', rfl⟩ := ry; exact PySem.EqMixed.ne_str_int (fin_bl I q (by simp))
    | str j => obtain ⟨t', rfl⟩ := ry; exact ne_str (fin_bl I q (congrArg not dec_str))
    | _ => exact absurd (show false = true from hs) Bool.false_ne_true
  | byt i =>
    obtain ⟨t, rfl⟩ := rx
    cases y with
    | byt j => obtain ⟨t', rfl⟩ := ry; exact PySem.W.ne_bytes (fin_bl I q (congrArg not dec_byt))
    | _ => exact absurd (show false = true from hs) Bool.false_ne_true
  | _ => cases y <;> exact absurd (show false = true from hs) Bool.false_ne_true

theorem op_lt : OpR X (compareOp .Lt) (rI0 fun i j => .bl (decide (i < j))) := opB0 fun _ _ _ _ _ _ _ q => lt_int q
theorem op_le : OpR X (compareOp .LtE) (rI0 fun i j => .bl (decide (i ≤ j))) := opB0 fun _ _ _ _ _ _ _ q => le_int q
theorem op_gt : OpR X (compareOp .Gt) (rI0 fun i j => .bl (decide (j < i))) := opB0 fun _ _ _ _ _ _ _ q => gt_int q
theorem op_ge : OpR X (compareOp .GtE) (rI0 fun i j => .bl (decide (j ≤ i))) := opB0 fun _ _ _ _ _ _ _ q => ge_int q

/-- is None, is not None: the right side a value none -/
theorem op_isN : OpR X (compareOp .Is) (fun x y H Q => y = .non ∧ Q (.bl (decide (x = .non))) H) := by
  intro pins s σ H x y v u Q I rx ry h
  obtain ⟨rfl, q⟩ := h
  cases ry
  refine is_none_gen (fin_bl I q ?_)
  cases x <;> first
    | (cases rx; rfl)
    | (obtain ⟨t, rfl⟩ := rx; rfl)
theorem op_notN : OpR X (compareOp .IsNot) (fun x y H Q => y = .non ∧ Q (.bl (!decide (x = .non))) H) := by
  intro pins s σ H x y v u Q I rx ry h
  obtain ⟨rfl, q⟩ := h
  cases ry
  refine isnot_none_gen (fin_bl I q ?_)
  cases x <;> first
    | (cases rx; rfl)
    | (obtain ⟨t, rfl⟩ := rx; rfl)



theorem nomark (b : Expr) {op : CmpOp} (h : op ≠ .In := by decide) (h2 : op ≠ .NotIn := by decide) : behindInMarks op b = false := by
  have e1 : (op == CmpOp.In) = false := by cases op <;> first | rfl | exact absurd rfl h
  have e2 : (op == CmpOp.NotIn) = false := by cases op <;> first | rfl | exact absurd rfl h2
  cases b <;> simp [behindInMarks, e1, e2]
/-- a comparison as a value; hm: nomark b, or (for in, not in) by with_unfolding_all rfl -/
theorem pe_cmpR {op : CmpOp} {r : R2} (ho : OpR X (compareOp op) r) (ha : PE X a ta) (hb : PE X b tb) (hm : behindInMarks op b = false) : PE X (.Compare a [op] [b] pos) (tOp r ta tb) := by
  intro pins s σ H Q I h
  exact wpAny_Compare1 (binT ha hb I h fun v u s2 x y H2 I2 rx ry q => ho pins s2 σ H2 x y v u Q I2 rx ry q) hm
/-- a reading of a value as a test -/
def tTest (t : TE) : TT := fun σ H Q => t σ H fun x H' => ∃ k, x = .bl k ∧ Q k H'
theorem pt_cmpR {op : CmpOp} {r : R2} (ho : OpR X (compareOp op) r) (ha : PE X a ta) (hb : PE X b tb) (hm : behindInMarks op b = false) : PT X (.Compare a [op] [b] pos) (tTest (tOp r ta tb)) := by
  intro pins s σ H Q I h
  refine wpAny_isTrue_Compare1 (thn (ha pins s σ H _ I h) fun v s1 ⟨x, H1, I1, r1, q1⟩ => thn (hb pins s1 σ H1 _ I1 q1) fun u s2 ⟨y, H2, I2, r2, q2⟩ =>
    thn (ho pins s2 σ H2 x y v u _ I2 r1 r2 q2) fun c s3 ⟨z, H3, I3, r3, k, e, q3⟩ => ?_) hm
  subst e
  cases r3
  exact wpAny_truthy_bool ⟨H3, I3, q3⟩

/-! ### truth -/
theorem line63 : (sizeLine : Nat) < 2 ^ 63 := by rw [sizeLine_eq]; decide

/-! ### strs and bytes -/


/-! ### scalar builtins, by CallR -/
theorem vals1 {x : V} {us : List Value} (r : Vals [x] us) : ∃ u, us = [u] ∧ RelV x u := by
  cases r with
  | cons r1 r2 => cases r2; exact ⟨_, rfl, r1⟩
theorem vals2 {x y : V} {us : List Value} (r : Vals [x, y] us) : ∃ u w', us = [u, w'] ∧ RelV x u ∧ RelV y w' := by
  cases r with
  | cons r1 r2 =>
    cases r2 with
    | cons r3 r4 => cases r4; exact ⟨_, _, rfl, r1, r3⟩
theorem call_abs : CallR X (.builtin "abs") (fun xs H Q => ∃ i, xs = [.int i] ∧ Q (.int (if i < 0 then -i else i)) H) := by
  intro pins s σ H xs us Q I r h
  obtain ⟨i, rfl, q⟩ := h
  obtain ⟨u, rfl, t, rfl⟩ := vals1 r
  exact call_abs_int fun u tk => ⟨.int (if i < 0 then -i else i), H, I.tok _, ⟨_, rfl⟩, q⟩
theorem call_max2 (hc : X.calm = true) : CallR X (.builtin "max") (fun xs H Q => ∃ i j, xs = [.int i, .int j] ∧ Q (.int (if j > i then j else i)) H) := by
  intro pins s σ H xs us Q I r h
  obtain ⟨i, j, rfl, q⟩ := h
  obtain ⟨u, w', rfl, ⟨t, rfl⟩, ⟨t', rfl⟩⟩ := vals2 r
  refine max_two_ints (I.ok.hd hc) fun h' tk k => ⟨_, H, I.kept k, ?_, q⟩
  by_cases hj : j > i
  · rw [if_pos hj, if_pos hj]; exact ⟨_, rfl⟩
  · rw [if_neg hj, if_neg hj]; exact ⟨_, rfl⟩
theorem call_min2 (hc : X.calm = true) : CallR X (.builtin "min") (fun xs H Q => ∃ i j, xs = [.int i, .int j] ∧ Q (.int (if j < i then j else i)) H) := by
  intro pins s σ H xs us Q I r h
  obtain ⟨i, j, rfl, q⟩ := h
  obtain ⟨u, w', rfl, ⟨t, rfl⟩, ⟨t', rfl⟩⟩ := vals2 r
  refine min_two_ints (I.ok.hd hc) fun h' tk k => ⟨_, H, I.kept k, ?_, q⟩
  by_cases hj : j < i
  · rw [if_pos hj, if_pos hj]; exact ⟨_, rfl⟩
  · rw [if_neg hj, if_neg hj]; exact ⟨_, rfl⟩
end
end L2

namespace L2
open PySem PySem.Spec PyProof.Rows

/-! ### an instance, its attributes a map -/
structure ObjM (h : Heap) (x dx C : Addr) (mA : Str → Option Value) : Prop where
  obj : h.get? x = some (PySem.W.instObj C dx)
  ns : h.Ns1 dx mA
  ne : dx ≠ x

theorem lookIn_ns {h : Heap} {dx : Addr} {mA : Str → Option Value} (n : h.Ns1 dx mA) : ∃ od, h.get? dx = some od ∧ ∀ name, PySem.W.lookIn name od = some (mA name) := by
  obtain ⟨o, es, ep, ho, hd, hk, _, hm⟩ := n
  refine ⟨o, ho, fun name => ?_⟩
  have e := hm name
  unfold nsFind findBy at e
  rw [← Array.find?_toList] at e
  unfold PySem.W.lookIn
  rw [hd]
  dsimp only
  split
  · rename_i y q
    rw [q] at e
    exact congrArg some e
  · rename_i q
    rw [q] at e
    have a : es.toList.any (·.refKey) = false := by
      rw [List.any_eq_false]
      intro y hy
      obtain ⟨z, t, hkey⟩ := hk y (Array.mem_toList_iff.mp hy)
      simp [DictEntry.refKey, hkey]
    have a' : ¬ es.toList.any (·.refKey) = true := by rw [a]; exact Bool.false_ne_true
    rw [if_neg a']
    exact congrArg some e

theorem ObjM.look {h : Heap} {x dx C : Addr} {mA : Str → Option Value} (I : ObjM h x dx C mA) : ∃ od, PySem.W.InstAt h x (PySem.W.instObj C dx) C (some od) ∧ ∀ name, PySem.W.lookIn name od = some (mA name) :=
  let ⟨od, ho, hl⟩ := lookIn_ns I.ns
  ⟨od, ⟨I.obj, rfl, rfl, ho⟩, hl⟩

section
variable {prog : Program} {w : World} {A : Around} {E : Value → Shared → Prop} {s : Shared} {K : PySem.W.Frag} {x dx C f : Addr} {mA : Str → Option Value} {name : Str} {v : Value}





end

/-! ### the attributes as a list of pairs -/


section
variable {P : Program} {w : World} {H H' : Hp} {h h' : Heap} {a C dx : Addr} {fs fs' : List (Str × V)}
theorem ins_get (hok : HOk P w H h) (e : H a = some (.ins C dx fs)) : ∃ mA, ObjM h a dx C mA ∧ (∀ f, RelO (fs.lookup f) (mA f)) ∧ PySem.Within mA (fs.map (·.1)) ∧ fs.length ≤ 1000 ∧ H dx = some (.own a) := by
  obtain ⟨d, z, ne, ob, mA, n, r, q⟩ := (show ObjOk P w H h a (.ins C dx fs) from hok a _ e)
  exact ⟨mA, ⟨ob, n, ne⟩, r, q, z, d⟩
end

/-! ### what of the text a class must have -/
structure Cls (K : PySem.W.Frag) (C : Addr) : Prop where
  pg : PySem.W.plainGet K C Str.empty = true
  hd : PySem.W.hasDictIn K C = true
  po : PySem.W.plainOver K C = true
  sa : PySem.W.findIn K (.ref C) "__setattr__" = some (some (.builtin "object.__setattr__"))
theorem Cls.get {K : PySem.W.Frag} {C : Addr} (c : Cls K C) (f : Str) : PySem.W.plainGet K C f = true := c.pg

section
variable {X : Cx} {pins : List (Addr × Obj)} {σ : St} {H : Hp} {s : Shared} {a C dx : Addr} {fs : List (Str × V)} {f : Str} {v : V} {A : Around} {E : Value → Shared → Prop}






end

/-! ### readings and rules -/

section
variable {X : Cx} {o e value : Expr} {f : Str} {pos pos' tpos : Pos} {ta tv : TE}

end

/-! ### isinstance -/
section
variable {X : Cx} {pins : List (Addr × Obj)} {σ : St} {H : Hp} {s : Shared} {A : Around} {E : Value → Shared → Prop} {Q : Value → Shared → Prop} {c : Value} {b : Bool}
/-- the type of a value, as the fragment's deciders take it; for an instance its class -/
inductive TyOf (K : PySem.W.Frag) (H : Hp) : V → Value → Prop where
  | non : TyOf K H .non (.type "NoneType")
  | bl (x : Bool) : TyOf K H (.bl x) (.type "bool")
  | int (i : Int) : TyOf K H (.int i) (.type "int")
  | str (x : Str) : TyOf K H (.str x) (.type "str")
  | flt (x : UInt64) : TyOf K H (.flt x) (.type "float")
  | lst {a : Addr} {xs : List V} (e : H a = some (.lst xs)) : TyOf K H (.ref a) (.type "list")
  | frz {a : Addr} {o : Obj} {xs : List V} (e : H a = some (.frz o (.lst xs))) : TyOf K H (.ref a) (.type "list")
  | tup {a : Addr} {xs : List V} (e : H a = some (.tup xs)) : TyOf K H (.ref a) (.type "tuple")
  | dK {a : Addr} {kvs : List (Key × V)} (e : H a = some (.dK kvs)) : TyOf K H (.ref a) (.type "dict")
  | dT {a : Addr} {kvs : List (List Key × V)} (e : H a = some (.dT kvs)) : TyOf K H (.ref a) (.type "dict")
  | ins {a C dx : Addr} {fs : List (Str × V)} (e : H a = some (.ins C dx fs)) (cl : Cls K C) (ha : PySem.W.findIn K (.ref C) "__class__" = some (some (.builtin "object.__class__")))
      (hn : PySem.W.specialIn K (.builtin "object.__class__") "__get__" = some (some (.builtin "getset_descriptor.__get__"))) (htk : PySem.W.takesIn K (.builtin "object.__class__") = some true)
      (hm : PySem.W.mroIn K C (.type "object") = some true) : TyOf K H (.ref a) (.ref C)
end
end L2

namespace L2
open PySem PySem.Spec PyProof.Rows

/-! ### room -/
structure Room (k : Nat) (A : Around) : Prop where
  hd : A.handled = none
  dp : A.depth + 3 * k + 5 < recursionLimit
  un : A.units + 16 * k + 200 < cLine
theorem Room.mono {j k : Nat} {A : Around} (r : Room k A) (h : j ≤ k) : Room j A := ⟨r.hd, by have := r.dp; omega, by have := r.un; omega⟩
theorem Room.deeper {k : Nat} {A : Around} (r : Room (k + 1) A) (env : Env) : Room k (A.deeper env) :=
  ⟨r.hd, by have := r.dp; show A.depth + 1 + 3 * k + 5 < _; omega, by have := r.un; show A.units + 3 + 16 * k + 200 < _; omega⟩
theorem Room.depth {k : Nat} {A : Around} (r : Room k A) : A.depth < recursionLimit := by have := r.dp; omega
theorem Room.units {k : Nat} {A : Around} (r : Room k A) : A.units + 64 < cLine := by have := r.un; omega

/-! ### argument lists and displays -/
def tNil : TA := fun _ H Q => Q [] H
def tCons (ta : TE) (tr : TA) : TA := fun σ H Q => ta σ H fun x H1 => tr σ H1 fun xs H2 => Q (x :: xs) H2
section
variable {X : Cx} {e : Expr} {es : List Expr} {te : TE} {t : TA} {pos : Pos}
theorem pa_nil : PA X [] tNil := fun _ _ _ _ H Q I h => Calls.spliced_nil ⟨[], H, I, .nil, h⟩
theorem pa_cons (ha : PE X e te) (hr : PA X es t) (hs : starEach (e :: es) X.env = (false, eval e X.env) :: starEach es X.env := by rfl) : PA X (e :: es) (tCons te t) := by
  intro pos pins s σ H Q I h
  rw [hs]
  show wpAny _ _ (spliced ((false, eval e X.env) :: backTo pos (starEach es X.env))) _ _ s
  refine Calls.spliced_cons (thn (ha pins s σ H _ I h) fun u s1 ⟨x, H1, I1, r1, q1⟩ => ?_)
  exact thn (hr pos pins s1 σ H1 _ I1 q1) fun us s2 ⟨xs, H2, I2, r2, q2⟩ => ⟨x :: xs, H2, I2, .cons r1 r2, q2⟩

/-- a tuple, a list of written items -/
def tTup (t : TA) : TE := fun σ H Q => t σ H fun xs H1 => xs.length ≤ sizeLine ∧ ∀ p, H1 p = none → Q (.ref p) (upd H1 p (.tup xs))
def tLst (t : TA) : TE := fun σ H Q => t σ H fun xs H1 => xs.length ≤ sizeLine ∧ ∀ p, H1 p = none → Q (.ref p) (upd H1 p (.lst xs))
theorem pe_tup {x1} (h : PA X es t) : PE X (.Tuple es x1 pos) (tTup t) := by
  intro pins s σ H Q I hq
  refine wpAny_Tuple_spliced (thn (h pos pins s σ H _ I hq) fun us s1 ⟨xs, H1, I1, r, z, q⟩ => ⟨by rw [← r.length]; exact z, ?_⟩)
  have hf : H1 s1.heap.objs.size = none := I1.hok.fresh (Nat.le_refl _)
  refine ⟨.ref s1.heap.objs.size, upd H1 s1.heap.objs.size (.tup xs), I1.laid (t' := s1.toks) (fun b u e => Heap.get?_push_of_some _ e) (Nat.le_refl _) ?_, rfl, q _ hf⟩
  exact ⟨z, us, r, ⟨_, Heap.get?_push_size _ rfl, rfl, _, rfl⟩⟩
theorem pe_lst (h : PA X es t) : PE X (.List es pos) (tLst t) := by
  intro pins s σ H Q I hq
  refine wpAny_List_spliced (thn (h pos pins s σ H _ I hq) fun us s1 ⟨xs, H1, I1, r, z, q⟩ => ⟨by rw [← r.length]; exact z, ?_⟩)
  have hf : H1 s1.heap.objs.size = none := I1.hok.fresh (Nat.le_refl _)
  refine ⟨.ref s1.heap.objs.size, upd H1 s1.heap.objs.size (.lst xs), I1.laid (t' := s1.toks) (fun b u e => Heap.get?_push_of_some _ e) (Nat.le_refl _) ?_, rfl, q _ hf⟩
  exact ⟨z, us, 0, r, Heap.get?_push_size _ rfl⟩
end

/-! ### what a def promises -/
/-- a def's promise: the bound arguments in the parameters' order, the heap, the wanted end, the wanted exception -/
abbrev Sp := List V → Hp → VK → XK → Prop
/-- how an exception lies behind a call (file 08 gives it): the callers' frames, abstract heap and state ahead of the call, the wish, the exception, the state -/
abbrev CXT := List Env → Hp → Shared → XK → Value → Shared → Prop

/-- the state at a call -/
structure Env0 (P : Program) (w : World) (K : PySem.W.Frag) (mg : Str → Option Value) (base : Heap) (A : Around) (outer : List Env) (s : Shared) (H : Hp) : Prop where
  frames : A.frames = some outer
  mod : Mod K mg base
  bs : ∀ b o, base.get? b = some o → s.heap.get? b = some o ∧ H b = none
  bsz : base.objs.size ≤ s.heap.objs.size
  funs : s.heap.FunFrames base outer
  frf : ∀ b ∈ frs outer, H b = none
  hok : HOk P w H s.heap
  bare : AllBare s.gens
/-- a call's end -/
def CE (outer : List Env) (P : Program) (w : World) (H : Hp) (s : Shared) (Q : VK) (u : Value) (s' : Shared) : Prop :=
  ∃ v H', s'.os = s.os ∧ AllBare s'.gens ∧ Un (frs outer) [] H H' s.heap s'.heap ∧ HOk P w H' s'.heap ∧ RelV v u ∧ Q v H'
def CR (CX : CXT) (outer : List Env) (P : Program) (w : World) (H : Hp) (s : Shared) (Q : VK) (E : XK) (r : Result) (s' : Shared) : Prop :=
  match r with
  | .ok (.ret u) => CE outer P w H s Q u s'
  | .ok _ => False
  | .error e => CX outer H s E e s'
structure FnOk (P : Program) (w : World) (K : PySem.W.Frag) (mg : Str → Option Value) (base : Heap) (CX : CXT) (k : Nat) (f : Addr) (fd : FuncData) (ps : List Str) (sp : Sp) : Prop where
  len : ∀ vs H Q E, sp vs H Q E → vs.length = ps.length
  run : ∀ (A : Around) (outer : List Env) (s : Shared) (H : Hp) (args : Args) (us : List Value) (vs : List V) (Q : VK) (E : XK), Room k A → Env0 P w K mg base A outer s H → BindsTo s fd args (ps.zip us) → Vals vs us → sp vs H Q E →
    codeAny (model P w) A (.call (.ref f) args) (CR CX outer P w H s Q E) s
theorem FnOk.mono {P : Program} {w : World} {K : PySem.W.Frag} {mg : Str → Option Value} {base : Heap} {CX : CXT} {j k : Nat} {f : Addr} {fd : FuncData} {ps : List Str} {sp : Sp} (F : FnOk P w K mg base CX j f fd ps sp) (h : j ≤ k) :
    FnOk P w K mg base CX k f fd ps sp := ⟨F.len, fun A outer s H args us vs Q E hr => F.run A outer s H args us vs Q E (hr.mono h)⟩
/-- a weaker promise -/
theorem FnOk.imp {P : Program} {w : World} {K : PySem.W.Frag} {mg : Str → Option Value} {base : Heap} {CX : CXT} {k : Nat} {f : Addr} {fd : FuncData} {ps : List Str} {sp sp' : Sp} (F : FnOk P w K mg base CX k f fd ps sp)
    (h : ∀ vs H Q E, sp' vs H Q E → sp vs H Q E) : FnOk P w K mg base CX k f fd ps sp' :=
  ⟨fun vs H Q E q => F.len vs H Q E (h _ _ _ _ q), fun A outer s H args us vs Q E hr he hb hv hs => F.run A outer s H args us vs Q E hr he hb hv (h _ _ _ _ hs)⟩


section
variable {X : Cx} {pins : List (Addr × Obj)} {σ : St} {H : Hp} {s s' : Shared}
/-- from a body: what a callee wants -/
theorem Inv.env0 (I : Inv X pins σ H s) : Env0 X.prog X.w X.K X.mg X.base X.A X.stack s H :=
  ⟨I.ok.frames, I.ok.mod, I.bs, Nat.le_trans I.ok.bsz I.sz, I.stack, I.stkFree, I.hok, I.bare⟩
/-- behind a call -/
theorem Inv.after {Q : VK} {u : Value} (I : Inv X pins σ H s) (h : CE X.stack X.prog X.w H s Q u s') : EP X pins σ Q u s' := by
  obtain ⟨v, H', os, bare, un, hok, r, q⟩ := h
  obtain ⟨hh, g, d, t, os'⟩ := s'
  obtain rfl : os' = s.os := os
  exact ⟨v, H', I.call (h' := hh) (g' := g) (d' := d) (t' := t) (ch := []) un hok bare (fun b z => absurd z (by simp)), r, q⟩
end

/-! ### calls -/
/-- f(..): the written arguments, then the defaults dvs; E: what is wanted of an exception -/
def tCall (sp : Sp) (dvs : List V) (E : XK) (t : TA) : TE := fun σ H Q => t σ H fun vs H1 => sp (vs ++ dvs) H1 Q E

/-- how the parameters are bound: us the positional arguments, kw the keywords' values by name, ds the defaults that fill up -/
def Binds (K : PySem.W.Frag) (fd : FuncData) (ps : List Str) (ds : List Value) : Prop :=
  ∀ (s : Shared) (us : List Value), K.In s.heap → (us ++ ds).length = ps.length → BindsTo s fd ⟨us, []⟩ (ps.zip (us ++ ds))
/-- every parameter is given -/
theorem Binds.all {K : PySem.W.Frag} {fd : FuncData} {ps : List Str} (h : ∀ us : List Value, us.length = ps.length → bindArgs fd ⟨us, []⟩ = pure (ps.zip us)) : Binds K fd ps [] := fun s us _ hl => by
  rw [List.append_nil] at hl ⊢
  exact .of_eq (h us hl)

/-- an exception of a callee reaches what this body wants of exceptions -/
def Passes (CX : CXT) (X : Cx) (E : XK) : Prop := ∀ (pins : List (Addr × Obj)) (σ : St) (H : Hp) (s : Shared) (e : Value) (s' : Shared), Inv X pins σ H s → CX X.stack H s E e s' → X.xe e s'

section
variable {X : Cx} {CX : CXT} {k : Nat} {f C : Addr} {fd : FuncData} {ps : List Str} {sp : Sp} {dvs : List V} {ds : List Value} {E : XK} {x m : Str} {p pos apos : Pos} {e o : Expr} {es : List Expr} {ta : TE} {t : TA}

/-- the callee runs -/
theorem run_fn {pins : List (Addr × Obj)} {σ : St} {H : Hp} {s : Shared} {Q : VK} {us : List Value} {vs : List V} (F : FnOk X.prog X.w X.K X.mg X.base CX k f fd ps sp) (hr : Room k X.A) (hb : Binds X.K fd ps ds) (hd : Vals dvs ds) (hx : Passes CX X E)
    (I : Inv X pins σ H s) (r : Vals vs us) (h : sp (vs ++ dvs) H Q E) : wpAny (model X.prog X.w) X.A (call (.ref f) us) (EP X pins σ Q) X.xe s := by
  have r2 : Vals (vs ++ dvs) (us ++ ds) := r.append hd
  have hl : (us ++ ds).length = ps.length := by rw [← r2.length]; exact F.len _ _ _ _ h
  refine wpAny_call (codeAny_mono (F.run X.A X.stack s H ⟨us, []⟩ (us ++ ds) (vs ++ dvs) Q E hr I.env0 (hb s us I.kIn hl) r2 h) fun r s' hq => ?_)
  cases r with
  | error e => exact hx pins σ H s e s' I hq
  | ok fl =>
    cases fl with
    | ret u => exact I.after hq
    | next => exact False.elim hq
    | brk => exact False.elim hq
    | cont => exact False.elim hq

theorem pe_call (F : FnOk X.prog X.w X.K X.mg X.base CX k f fd ps sp) (hr : Room k X.A) (hg : Gl X x) (hm : X.mg x = some (.ref f)) (hk : PySem.W.keepIn X.K (.ref f) = true) (hb : Binds X.K fd ps ds) (hd : Vals dvs ds) (hx : Passes CX X E)
    (ha : PA X (e :: es) t) (hdb : (x == ("__debug__" : Str)) = false := by decide) (he : starEach (e :: es) X.env = (false, eval e X.env) :: starEach es X.env := by rfl) (hpl : (backTo pos (starEach es X.env)).any (·.1) = false := by rfl) :
    PE X (.Call (.Name x p) (e :: es) [] pos) (tCall sp dvs E t) := by
  intro pins s σ H Q I h
  refine wpAny_Call_Name_kw (ld_glob I hg hm ?_ hdb)
  refine PySem.W.callWith_K (h₀ := X.base) I.ok.mod.kin hk (thn (ha pos pins s σ H _ I h) fun us s1 ⟨vs, H1, I1, r, q⟩ => ⟨I1.kIn, ?_⟩) he hpl
  exact run_fn F hr hb hd hx I1 r q



end

/-! ### keywords -/
section
variable {X : Cx} {CX : CXT} {k : Nat} {f C : Addr} {fd : FuncData} {ps ks : List Str} {sp : Sp} {E : XK} {x m : Str} {p pos apos kpos : Pos} {e o : Expr} {es : List Expr} {kws : List Keyword} {te ta : TE} {t tk : TA} {nm : Option Str}

variable {g : List Value → List Value → List Value} {gV : List V → List V → List V}
end

/-! ### a def's body keeps its promise -/
/-- names: the parameters first -/
structure FnScope (N P : List Str) (sc : Scope) : Prop where
  kind : sc.kind = .function
  co : sc.isCoroutine = false
  gen : sc.isGenerator = false
  nd : N.Nodup
  pre : N.take P.length = P
  par : ∀ x ∈ P, sc.names.lookup x = some .local ∨ sc.names.lookup x = some .cell
  nofree : ∀ y ∈ sc.names, y.2 ≠ .free

theorem bindL_out {kindOf : Str → Option NameKind} {x : Str} : ∀ {binds : List (Str × Value)} {m : Str → Option Value}, (∀ v, (x, v) ∉ binds) → bindL kindOf binds m x = m x
  | [], _, _ => rfl
  | (n, v) :: r, m, h => by
    unfold bindL
    rw [bindL_out fun w hw => h w (List.mem_cons_of_mem _ hw)]
    split
    · have : x ≠ n := by rintro rfl; exact h v List.mem_cons_self
      simp [this]
    · rfl
theorem bindC_out {kindOf : Str → Option NameKind} {x : Str} : ∀ {binds : List (Str × Value)} {m : Str → Option Value}, (∀ v, (x, v) ∉ binds) → bindC kindOf binds m x = m x
  | [], _, _ => rfl
  | (n, v) :: r, m, h => by
    unfold bindC
    rw [bindC_out fun w hw => h w (List.mem_cons_of_mem _ hw)]
    split
    · rfl
    · have : x ≠ n := by rintro rfl; exact h v List.mem_cons_self
      simp [this]
theorem bindL_get {kindOf : Str → Option NameKind} {x : Str} {v : Value} : ∀ {P : List Str} {vs : List Value} {i : Nat} {m : Str → Option Value}, P.Nodup → P[i]? = some x → vs[i]? = some v → kindOf x = some .local →
    bindL kindOf (P.zip vs) m x = some v
  | [], _, _, _, _, h, _, _ => by simp at h
  | _ :: _, [], _, _, _, _, h, _ => by simp at h
  | p :: P, w :: vs, 0, m, nd, h1, h2, hk => by
    simp at h1 h2; subst h1; subst h2
    show bindL kindOf ((p, w) :: P.zip vs) m p = _
    unfold bindL
    rw [bindL_out fun v hv => (List.nodup_cons.mp nd).1 (List.of_mem_zip hv).1, if_pos hk]
    simp
  | p :: P, w :: vs, i + 1, m, nd, h1, h2, hk => by
    show bindL kindOf ((p, w) :: P.zip vs) m x = _
    unfold bindL
    exact bindL_get (i := i) (List.nodup_cons.mp nd).2 (by simpa using h1) (by simpa using h2) hk
theorem bindC_get {kindOf : Str → Option NameKind} {x : Str} {v : Value} : ∀ {P : List Str} {vs : List Value} {i : Nat} {m : Str → Option Value}, P.Nodup → P[i]? = some x → vs[i]? = some v → kindOf x ≠ some .local →
    bindC kindOf (P.zip vs) m x = some v
  | [], _, _, _, _, h, _, _ => by simp at h
  | _ :: _, [], _, _, _, _, h, _ => by simp at h
  | p :: P, w :: vs, 0, m, nd, h1, h2, hk => by
    simp at h1 h2; subst h1; subst h2
    show bindC kindOf ((p, w) :: P.zip vs) m p = _
    unfold bindC
    rw [bindC_out fun v hv => (List.nodup_cons.mp nd).1 (List.of_mem_zip hv).1, if_neg hk]
    simp
  | p :: P, w :: vs, i + 1, m, nd, h1, h2, hk => by
    show bindC kindOf ((p, w) :: P.zip vs) m x = _
    unfold bindC
    exact bindC_get (i := i) (List.nodup_cons.mp nd).2 (by simpa using h1) (by simpa using h2) hk

/-- the names' values at the entry -/
def start (N : List Str) (vs : List V) : St := vs.map some ++ List.replicate (N.length - vs.length) none

/-- the context of a def's body, at its entry; an exception leaves the frame, then lies as CX says -/
def cxOf (CX : CXT) (P : Program) (w : World) (K : PySem.W.Frag) (mg : Str → Option Value) (base : Heap) (N : List Str) (qual : Str) (scope : Scope) (f : Addr) (cd : Value) (A : Around) (outer : List Env) (s : Shared) (H : Hp) (E : XK) : Cx where
  prog := P
  w := w
  K := K
  mg := mg
  base := base
  A := A.deeper (envOfC qual scope s.heap.objs.size f cd)
  N := N
  s₀ := s
  H₀ := H
  env := envOfC qual scope s.heap.objs.size f cd
  outer := outer
  stack := envOfC qual scope s.heap.objs.size f cd :: outer
  ex := []
  calm := true
  fn := fun _ => true
  pn := []
  xe := fun e s' => wpAny (model P w) (A.deeper (envOfC qual scope s.heap.objs.size f cd)) (leaving (envOfC qual scope s.heap.objs.size f cd) e) (fun _ s'' => CX outer H s E e s'') (fun e' s'' => CX outer H s E e' s'') s'

theorem cell_has {sc : Scope} {n : Nat} {x : Str} (h : sc.names.lookup x = some .cell) : ∃ c, (cellsFrom n sc.names []).lookup x = some c := by
  have q := PySem.W.cellsFrom_some sc.names n [] (.inl h)
  exact Option.isSome_iff_exists.mp q

theorem inv_start {CX : CXT} {P : Program} {w : World} {K : PySem.W.Frag} {mg : Str → Option Value} {base : Heap} {N ps : List Str} {qual : Str} {scope : Scope} {f : Addr} {cd : Value} {A : Around} {outer : List Env} {s s1 : Shared} {H : Hp} {E : XK} {us : List Value} {vs : List V}
    (S : FnScope N ps scope) (hd : A.handled = none) (e0 : Env0 P w K mg base A outer s H) (hl : vs.length = ps.length) (r : Vals vs us)
    (x : InCallC s s.heap.objs.size (bindL (envOfC qual scope s.heap.objs.size f cd).kindOf (ps.zip us) fun _ => none) (cellsFrom (s.heap.objs.size + 1) scope.names []) (bindC (envOfC qual scope s.heap.objs.size f cd).kindOf (ps.zip us) fun _ => none) s1) :
    Inv (cxOf CX P w K mg base N qual scope f cd A outer s H E) [] (start N vs) H s1 := by
  have hpl : ps.length ≤ N.length := by have := congrArg List.length S.pre; rw [List.length_take] at this; omega
  obtain ⟨h1, tk, rfl, hk⟩ := x.done
  have noA : ∀ b : Addr, b ∉ (cxOf CX P w K mg base N qual scope f cd A outer s H E).ex := fun b z => absurd (show b ∈ ([] : List Addr) from z) (by simp)
  refine ⟨⟨e0.mod, S.kind, rfl, rfl, Nat.le_refl _, fun y z c h1 h2 => ?_, fun y hy => ?_, fun y c _ h => ?_, fun _ => hd, Around.frames_deeper e0.frames, .inr ⟨rfl, rfl⟩, fun b z => absurd z (noA b), e0.bs, e0.bsz, fun b _ _ => noA b, fun b z => absurd z (noA b), e0.funs, e0.frf⟩,
    rfl, e0.bare, Un.kept hk, ⟨_, x.toInCall.ns, fun i y v h1 h2 h3 => ?_⟩, fun y c h => ⟨_, x.cell y c h⟩, e0.hok.fresh (Nat.le_refl _), fun y c h => ?_, fun p hp => absurd (show p ∈ ([] : List (Addr × Obj)) from hp) (by simp), e0.hok.kept hk, ?_⟩
  · exact name_of_addr x.apart (PySem.mem_of_lookup h1) (PySem.mem_of_lookup h2)
  · have hy : scope.names.lookup y = some .cell ∨ scope.names.lookup y = some .free := hy
    rcases hy with hy | hy
    · exact cell_has hy
    · exact absurd rfl (S.nofree _ (PySem.mem_of_lookup hy))
  · exact Nat.le_of_lt (x.above y c (PySem.mem_of_lookup h))
  · have hi : i < vs.length := by
      unfold start at h2
      by_cases hi : i < vs.length
      · exact hi
      · rw [List.getElem?_append_right (by simpa using hi)] at h2
        rw [List.getElem?_replicate] at h2
        split at h2 <;> cases h2
    have ha : vs[i]? = some v := by
      unfold start at h2
      rw [List.getElem?_append_left (by simpa using hi), List.getElem?_map] at h2
      cases e : vs[i]? with
      | none => rw [e] at h2; cases h2
      | some a => rw [e] at h2; cases h2; rfl
    obtain ⟨u, hu, rv⟩ := r.get ha
    have hp : ps[i]? = some y := by
      rw [← S.pre, List.getElem?_take_of_lt (by omega)]; exact h1
    have ndP : ps.Nodup := by rw [← S.pre]; exact S.nd.sublist (List.take_sublist _ _)
    refine ⟨u, rv, ?_⟩
    rcases S.par y (List.mem_of_getElem? hp) with k | k
    · exact .inl ⟨k, bindL_get ndP hp hu k⟩
    · obtain ⟨c, e⟩ := cell_has (n := s.heap.objs.size + 1) k
      refine .inr ⟨.inl k, c, e, ?_⟩
      have q := x.cell y c e
      rw [bindC_get ndP hp hu (by show scope.names.lookup y ≠ _; rw [k]; decide)] at q
      exact q
  · exact e0.hok.fresh (Nat.le_of_lt (x.above y c (PySem.mem_of_lookup h)))
  · unfold start
    show _ = N.length
    rw [List.length_append, List.length_map, List.length_replicate]
    omega

/-- THE RULE: a def (or a method) of the text, by its body. The body's reading t is chosen for each entry; it is run at the parameters' values -/
theorem fn_of {CX : CXT} {P : Program} {w : World} {K : PySem.W.Frag} {mg : Str → Option Value} {base : Heap} {k : Nat} {f : Addr} {name qual : Str} {params : Arguments} {body : List Stmt} {scope : Scope} {dV kV doc pm cdv ct oc : Value} {an od : Option Addr}
    {osl : Array (Option Value)} {N ps : List Str} {sp : Sp} (lk : K.lookup f = some ⟨oc, od, .func (PySem.W.fnOf name qual params body scope dV kV doc pm an cdv ct), osl⟩) (hcd : PySem.W.codeIn K cdv qual = true) (S : FnScope N ps scope)
    (len : ∀ vs H Q E, sp vs H Q E → vs.length = ps.length)
    (hbody : ∀ (A : Around) (outer : List Env) (s : Shared) (H : Hp) (vs : List V) (Q : VK) (E : XK), Room k (A.deeper (envOfC qual scope s.heap.objs.size f cdv)) → sp vs H Q E →
      ∃ t, PSs (cxOf CX P w K mg base N qual scope f cdv A outer s H E) body t ∧ t { nx := fun _ H' => Q .non H', rt := Q } (start N vs) H) :
    FnOk P w K mg base CX (k + 1) f (PySem.W.fnOf name qual params body scope dV kV doc pm an cdv ct) ps sp := by
  refine ⟨len, fun A outer s H args us vs Q E hr e0 hb r hsp => ?_⟩
  have hl := len _ _ _ _ hsp
  have KX : K.In s.heap := e0.mod.kin.keeps fun b o e => (e0.bs b o e).1
  have lim : s.heap.NoLimit := e0.mod.nolimit.keeps fun b o e => (e0.bs b o e).1
  have hkind : ∀ y ∈ ps.zip us, scope.names.lookup y.1 = some .local ∨ (scope.names.lookup y.1 = some .cell ∧ ((cellsFrom (s.heap.objs.size + 1) scope.names []).lookup y.1).isSome = true) := fun ⟨n, v⟩ hy => by
    rcases S.par n (List.of_mem_zip hy).1 with q | q
    · exact .inl q
    · exact .inr ⟨q, PySem.W.cellsFrom_some _ _ _ (.inl q)⟩
  refine codeAny_call_function hr.depth (KX _ _ lk) rfl S.co S.gen rfl (PySem.W.codeRec_of KX hcd) (hb _ _ _ _ ?_)
  refine wpAny_newFunctionEnv_cells S.kind hkind fun env he s1 x => ?_
  subst he
  refine ⟨lim.keeps x.toInCall.keep, codeAny_func ?_⟩
  obtain ⟨t, ht, hq⟩ := hbody A outer s H vs Q E (hr.deeper _) hsp
  have I : Inv (cxOf CX P w K mg base N qual scope f cdv A outer s H E) [] (start N vs) H s1 := inv_start S hr.hd e0 hl r x
  refine wpAny_mono (ht [] s1 (start N vs) H _ I hq) (fun fl s' hs => ?_) fun e s' hs => hs
  have fin : ∀ {σ' : St} {H' : Hp} {v : V} {u : Value}, Inv (cxOf CX P w K mg base N qual scope f cdv A outer s H E) [] σ' H' s' → RelV v u → Q v H' → CE outer P w H s Q u s' :=
    fun {σ' H' v u} J rv q => ⟨v, H', J.os, J.bare, J.base, J.hok, rv, q⟩
  cases fl with
  | ret u =>
    obtain ⟨v, σ', H', J, rv, q⟩ := hs
    exact fin J rv q
  | next =>
    obtain ⟨σ', H', J, q⟩ := hs
    exact fin (v := V.non) (u := Value.none) J rfl q
  | brk =>
    obtain ⟨_, _, _, q⟩ := hs
    exact False.elim q
  | cont =>
    obtain ⟨_, _, _, q⟩ := hs
    exact False.elim q
end L2

namespace L2
open PySem PySem.Spec PyProof.Rows
section
variable {X : Cx} {x : Str} {p pos : Pos} {e : Expr} {es : List Expr} {t : TA} {id T : String} {r : List V → Hp → VK → Prop}

def tCB (r : List V → Hp → VK → Prop) (t : TA) : TE := fun σ H Q => t σ H fun vs H1 => r vs H1 Q
/-- f(e, ..), f a built-in function -/
theorem pe_callB (hc : CallR X (.builtin id) r) (hg : Gl X x) (hm : X.mg x = none) (hv : bootBuiltins x = some (.builtin id)) (ha : PA X (e :: es) t) (hn : x ≠ "__name__" := by decide) (hdb : (x == ("__debug__" : Str)) = false := by decide)
    (he : starEach (e :: es) X.env = (false, eval e X.env) :: starEach es X.env := by rfl) (hpl : (backTo pos (starEach es X.env)).any (·.1) = false := by rfl) : PE X (.Call (.Name x p) (e :: es) [] pos) (tCB r t) := by
  intro pins s σ H Q I h
  refine wpAny_Call_Name_kw (ld_blt I hg hm hv ?_ hn hdb)
  exact PyProof.Rows.callWith_builtin1 (thn (ha pos pins s σ H _ I h) fun us s1 ⟨vs, H1, I1, r1, q1⟩ => hc pins s1 σ H1 vs us Q I1 r1 q1) he hpl
/-- T(e, ..), T a built-in type -/
theorem pe_callTy (hc : CallR X (.type T) r) (hg : Gl X x) (hm : X.mg x = none) (hv : bootBuiltins x = some (.type T)) (ha : PA X (e :: es) t) (hn : x ≠ "__name__" := by decide) (hdb : (x == ("__debug__" : Str)) = false := by decide)
    (he : starEach (e :: es) X.env = (false, eval e X.env) :: starEach es X.env := by rfl) (hpl : (backTo pos (starEach es X.env)).any (·.1) = false := by rfl) : PE X (.Call (.Name x p) (e :: es) [] pos) (tCB r t) := by
  intro pins s σ H Q I h
  refine wpAny_Call_Name_kw (ld_blt I hg hm hv ?_ hn hdb)
  exact PyProof.Rows.callWith_type1 (thn (ha pos pins s σ H _ I h) fun us s1 ⟨vs, H1, I1, r1, q1⟩ => hc pins s1 σ H1 vs us Q I1 r1 q1) he hpl
end
end L2

namespace HT
open PySem PyProof.Rows



section
open PySem.SeqAt
open PySem.AutoSeq1 (wpAny_loadPart')
open PySem.MeetsSeq PySem.MeetsSeq2 PySem.MeetsSeq3

end

section
variable {prog : Program} {w : World} {A : Around} {E : Value → Shared → Prop} {s : Shared}



/-! ### t[a:b], not the whole -/
/-- a slice's bound as a place among n (d where it is left out) -/
def sIx (n d : Nat) : Option Int → Nat
  | none => d
  | some v => if v < 0 then (v + (n : Int)).toNat else min v.toNat n

end
end HT

namespace L2
open PySem PySem.Spec PyProof.Rows

/-! ### the parts of a slice -/
abbrev TO := St → Hp → (Option Int → Hp → Prop) → Prop
/-- a slice's part (left out, or an int) -/
def PO (X : Cx) (e : Option Expr) (t : TO) : Prop :=
  ∀ (pins : List (Addr × Obj)) (s : Shared) (σ : St) (H : Hp) (Q : Option Int → Hp → Prop), Inv X pins σ H s → t σ H Q →
    wpAny (model X.prog X.w) X.A (evalPart e X.env) (fun u s' => ∃ o H', Inv X pins σ H' s' ∧ IsPart u o ∧ Q o H') X.xe s
def tPart (t : TE) : TO := fun σ H Q => t σ H fun x H1 => ∃ i, x = .int i ∧ Q (some i) H1

theorem intsAre_of {ns : List Int} : ∀ {us : List Value}, Vals (ns.map V.int) us → IntsAre us ns := by
  induction ns with
  | nil => intro us r; rw [List.map_nil] at r; cases r; exact .nil
  | cons n ns ih =>
    intro us r
    rw [List.map_cons] at r
    cases r with
    | cons r1 r2 =>
      obtain ⟨t, e⟩ := r1
      subst e
      exact .cons n t (ih r2)

section
variable {X : Cx} {e : Expr} {te : TE} {lo hi : Option Expr} {tl th : TO} {pos p2 : Pos}

theorem po_some (h : PE X e te) : PO X (some e) (tPart te) := by
  intro pins s σ H Q I hw
  rw [evalPart_some]
  refine thn (h pins s σ H _ I hw) fun u s1 ⟨x, H1, I1, r1, q1⟩ => ?_
  obtain ⟨i, rfl, q⟩ := q1
  obtain ⟨t, rfl⟩ := r1
  exact ⟨some i, H1, I1, .int i t, q⟩

/-- what a slice of a value is, by values: the slice object stands at sl -/
def SlR (X : Cx) (r : V → Option Int → Option Int → Hp → VK → Prop) : Prop :=
  ∀ (pins : List (Addr × Obj)) (s : Shared) (σ : St) (H : Hp) (x : V) (v vl vu : Value) (lo hi : Option Int) (sl : Addr) (Q : VK), Inv X pins σ H s → RelV x v → s.heap.IsSliceOf sl vl vu .none → IsPart vl lo → IsPart vu hi → r x lo hi H Q →
    ∃ T id, typeLookup (.type T) "__getitem__" = pure (some (.builtin id)) ∧ s.TypeIs v T ∧ wpAny (model X.prog X.w) X.A (getItem v (.ref sl)) (EP X pins σ Q) X.xe s
def tSl (r : V → Option Int → Option Int → Hp → VK → Prop) (te : TE) (tl th : TO) : TE := fun σ H Q => te σ H fun x H1 => tl σ H1 fun l H2 => th σ H2 fun u H3 => r x l u H3 Q
/-- a[lo:hi], any a -/
theorem pe_slice {r : V → Option Int → Option Int → Hp → VK → Prop} (hr : SlR X r) (he : PE X e te) (hl : PO X lo tl) (hu : PO X hi th) : PE X (.Subscript e (.Slice lo hi none p2) pos) (tSl r te tl th) := by
  intro pins s σ H Q I h
  refine Subscript_ (thn (he pins s σ H _ I h) fun v s1 ⟨x, H1, I1, r1, q1⟩ => ?_)
  refine wpAny_Slice (thn (hl pins s1 σ H1 _ I1 q1) fun vl s2 ⟨l, H2, I2, pl, q2⟩ => thn (hu pins s2 σ H2 _ I2 q2) fun vu s3 ⟨u, H3, I3, pu, q3⟩ => ?_)
  rw [evalPart_none]
  refine wpAny_pure ?_
  have I4 : Inv X pins σ H3 { s3 with heap := s3.heap.push { cls := .type "slice", data := .fields #[vl, vu, .none] } } := I3.kept (t' := s3.toks) fun b ob q => Heap.get?_push_of_some _ q
  obtain ⟨T, id, hT, ht, hg⟩ := hr pins { s3 with heap := s3.heap.push { cls := .type "slice", data := .fields #[vl, vu, .none] } } σ H3 x v vl vu l u s3.heap.objs.size Q I4 r1 (Heap.IsSliceOf.new ..) pl pu q3
  show wpAny (model X.prog X.w) X.A (subscriptTail e (.Slice lo hi none p2) v (.ref s3.heap.objs.size)) (EP X pins σ Q) X.xe { s3 with heap := s3.heap.push { cls := .type "slice", data := .fields #[vl, vu, .none] } }
  exact tail_any (ops := [.ref s3.heap.objs.size, v]) ht hT hg (by with_unfolding_all rfl)

/-- the items of xs[lo:hi] -/
def cutV (xs : List V) (lo hi : Option Int) : List V := (xs.drop (HT.sIx xs.length 0 lo)).take (HT.sIx xs.length xs.length hi - HT.sIx xs.length 0 lo)
theorem cutV_length (xs : List V) (lo hi : Option Int) : (cutV xs lo hi).length ≤ xs.length := by
  unfold cutV
  rw [List.length_take, List.length_drop]
  omega

/-! ### t < u, t + u -/
end
end L2

namespace L2
open PySem PySem.Spec PyProof.Rows

/-! ### places -/
/-- the place that an index of any sign means -/
def ixN (n : Nat) (i : Int) : Option Nat := if 0 ≤ i then (if i < n then some i.toNat else none) else if -(n : Int) ≤ i then some (i + n).toNat else none
def atI {α : Type} (xs : List α) (i : Int) : Option α := (ixN xs.length i).bind fun j => xs[j]?
theorem ixN_seq {n : Nat} {i : Int} {j : Nat} (h : ixN n i = some j) : seqIndex? i n = some j ∧ j < n ∧ -(n : Int) ≤ i ∧ i < n := by
  unfold ixN at h
  by_cases h0 : 0 ≤ i
  · rw [if_pos h0] at h
    by_cases h1 : i < n
    · rw [if_pos h1] at h
      have e : i.toNat = j := Option.some.inj h
      exact ⟨by rw [seqIndex_of h0 h1, e], by omega, by omega, h1⟩
    · rw [if_neg h1] at h; cases h
  · rw [if_neg h0] at h
    by_cases h1 : -(n : Int) ≤ i
    · rw [if_pos h1] at h
      have e : (i + n).toNat = j := Option.some.inj h
      exact ⟨by rw [seqIndex_neg (by omega) h1, e], by omega, h1, by omega⟩
    · rw [if_neg h1] at h; cases h
theorem atI_get {α : Type} {xs : List α} {i : Int} {v : α} (h : atI xs i = some v) : ∃ j, seqIndex? i xs.length = some j ∧ xs[j]? = some v ∧ j < xs.length ∧ -(xs.length : Int) ≤ i ∧ i < xs.length := by
  unfold atI at h
  cases e : ixN xs.length i with
  | none => rw [e] at h; cases h
  | some j =>
    rw [e] at h
    obtain ⟨h1, h2, h3, h4⟩ := ixN_seq e
    exact ⟨j, h1, h, h2, h3, h4⟩
theorem atI_nat {α : Type} {xs : List α} {j : Nat} {v : α} (h : xs[j]? = some v) : atI xs (j : Int) = some v := by
  have hj : j < xs.length := (List.getElem?_eq_some_iff.mp h).1
  have e : ixN xs.length (j : Int) = some j := by
    unfold ixN
    rw [if_pos (by omega), if_pos (by omega)]; simp
  unfold atI; rw [e]; exact h
theorem atI_last {α : Type} (xs : List α) (v : α) : atI (xs ++ [v]) (-1) = some v := by
  have hl : (xs ++ [v]).length = xs.length + 1 := by simp
  have e : ixN (xs ++ [v]).length (-1) = some xs.length := by
    unfold ixN
    rw [hl, if_neg (by decide), if_pos (by omega)]
    congr 1
    omega
  unfold atI
  rw [e]
  show (xs ++ [v])[xs.length]? = some v
  simp

/-! ### what may be subscripted -/
/-- what stands as an index of a plain subscript -/
def PlainIx (b : Expr) : Prop := ∀ o i, subscripted b false o i = operate [o, i] (getItem o i)
/-- a subscript by values -/
def IxR (X : Cx) (r : R2) : Prop :=
  ∀ (value slice : Expr) (pins : List (Addr × Obj)) (s : Shared) (σ : St) (H : Hp) (x y : V) (v u : Value) (Q : VK), Inv X pins σ H s → RelV x v → RelV y u → r x y H Q →
    subscripted slice false v u = operate [v, u] (getItem v u) → wpAny (model X.prog X.w) X.A (subscriptTail value slice v u) (EP X pins σ Q) X.xe s
/-- a call of a builtin's method by values: the receiver, the arguments -/
def MtR (X : Cx) (id : String) (r : V → List V → Hp → VK → Prop) : Prop :=
  ∀ (pins : List (Addr × Obj)) (s : Shared) (σ : St) (H : Hp) (x : V) (xs : List V) (v : Value) (us : List Value) (Q : VK), Inv X pins σ H s → RelV x v → Vals xs us → r x xs H Q →
    wpAny (model X.prog X.w) X.A (call (.builtin id) (v :: us)) (EP X pins σ Q) X.xe s
section
variable {X : Cx} {a b : Expr} {ta tb : TE} {pos : Pos}
/-- a[b] -/
theorem pe_ix {r : R2} (hr : IxR X r) (ha : PE X a ta) (hb : PE X b tb) (hs : PlainIx b) : PE X (.Subscript a b pos) (tOp r ta tb) := by
  intro pins s σ H Q I h
  exact Subscript_ (binT ha hb I h fun v u s2 x y H2 I2 rx ry q => hr a b pins s2 σ H2 x y v u Q I2 rx ry q (hs _ _))

def rIxL (K : PySem.W.Frag) : R2 := fun x y H Q => ∃ p xs i v, x = .ref p ∧ y = .int i ∧ SqL K H p xs ∧ atI xs i = some v ∧ Q v H
def rIxT (K : PySem.W.Frag) : R2 := fun x y H Q => ∃ p xs i v, x = .ref p ∧ y = .int i ∧ SqT K H p xs ∧ atI xs i = some v ∧ Q v H
theorem ix_list : IxR X (rIxL X.K) := by
  intro value slice pins s σ H x y v u Q I rx ry h hs
  obtain ⟨p, xs, i, z, rfl, rfl, hq, he, q⟩ := h
  cases rx
  obtain ⟨t, rfl⟩ := ry
  obtain ⟨its, r, pl, hz⟩ := I.list hq
  obtain ⟨j, h1, h2, h3, h4, h5⟩ := atI_get he
  obtain ⟨w, ew, rw'⟩ := r.get h2
  have hl := r.length
  have hn := line63
  have fin : EP X pins σ Q w s := ⟨z, H, I, rw', q⟩
  by_cases h0 : 0 ≤ i
  · have hj : i.toNat = j := by
      rw [seqIndex_of h0 h5] at h1
      exact Option.some.inj h1
    exact item_listR pl.isList h0 (by omega) (by rw [hj]; simpa using ew) fin hs
  · have hj : (i + (its.toArray.size : Int)).toNat = j := by
      rw [seqIndex_neg (by omega) h4] at h1
      rw [List.size_toArray, ← hl]
      exact Option.some.inj h1
    exact subscriptTail_builtinR (x := w) pl.isList.typeIs slot_list_getitem.lookup
      (wpAny_getItem_list_neg (Q := fun r s' => r = w ∧ EP X pins σ Q r s') pl.isList (by omega) (by rw [List.size_toArray] <;> omega) (by omega) (by rw [hj]; simpa using ew) ⟨rfl, fin⟩) hs
theorem ix_tup : IxR X (rIxT X.K) := by
  intro value slice pins s σ H x y v u Q I rx ry h hs
  obtain ⟨p, xs, i, z, rfl, rfl, hq, he, q⟩ := h
  cases rx
  obtain ⟨t, rfl⟩ := ry
  obtain ⟨its, r, pl, hz⟩ := I.tuple hq
  obtain ⟨j, h1, h2, h3, h4, h5⟩ := atI_get he
  obtain ⟨w, ew, rw'⟩ := r.get h2
  have hl := r.length
  have hn := line63
  have fin : EP X pins σ Q w s := ⟨z, H, I, rw', q⟩
  exact subscriptTail_builtinR (x := w) pl.typeIs slot_tuple_getitem.lookup
    (getItem_tuple (j := j) (Q := fun r s' => r = w ∧ EP X pins σ Q r s') pl (by omega) (by omega) (by rw [List.size_toArray, ← hl]; exact h1) (by simpa using ew) ⟨rfl, fin⟩) hs

/-! ### xs[i] = v, any sign -/
/-- the list's object behind a store -/
theorem mapSeq_set (its : List Value) (n j : Nat) (u : Value) : Obj.mapSeq (·.setIfInBounds j u) { cls := .type "list", data := .seq its.toArray n } = { cls := .type "list", data := .seq (its.set j u).toArray n } := by
  simp [Obj.mapSeq]
theorem Inv.lst {pins : List (Addr × Obj)} {σ : St} {H : Hp} {s : Shared} {p : Addr} {xs : List V} (I : Inv X pins σ H s) (h : H p = some (.lst xs)) :
    ∃ (its : List Value) (n : Nat), Vals xs its ∧ s.heap.get? p = some { cls := .type "list", data := .seq its.toArray n } ∧ xs.length ≤ sizeLine := by
  obtain ⟨z, its, n, r, e⟩ := I.hok p _ h
  exact ⟨its, n, r, e, z⟩
/-- the list at p is written by an update of its object -/
theorem Inv.lstUpd {pins : List (Addr × Obj)} {σ : St} {H : Hp} {s : Shared} {p : Addr} {xs ys : List V} {its its' : List Value} {n n' : Nat} {f : Obj → Obj} (I : Inv X pins σ H s) (h : H p = some (.lst xs))
    (ho : s.heap.get? p = some { cls := .type "list", data := .seq its.toArray n }) (hf : f { cls := .type "list", data := .seq its.toArray n } = { cls := .type "list", data := .seq its'.toArray n' }) (r : Vals ys its') (hz : ys.length ≤ sizeLine) (t : Nat) :
    Inv X pins σ (upd H p (.lst ys)) { s with heap := s.heap.update p f, toks := t } := by
  have e : (s.heap.update p f).get? p = some { cls := .type "list", data := .seq its'.toArray n' } := by
    rw [Heap.get?_update_self f ho (by rw [hf] <;> rfl), hf]
  refine I.write (x := p) (e := p) (by rw [h]; trivial) (.inl rfl) (fun b u hb q => (Heap.get?_update_other _ _ (Ne.symm hb)).trans q) ⟨_, e⟩ ?_
  exact ⟨hz, its', n', r, e⟩
def rSetL : V → V → V → Hp → (Hp → Prop) → Prop := fun o i v H Q => ∃ p xs k j, o = .ref p ∧ i = .int k ∧ H p = some (.lst xs) ∧ ixN xs.length k = some j ∧ Q (upd H p (.lst (xs.set j v)))
theorem set_list : PSet X rSetL := by
  intro pins s σ H o i v ov iv u Q I ro ri rv h
  obtain ⟨p, xs, k, j, rfl, rfl, hp, hj, q⟩ := h
  cases ro
  obtain ⟨t, rfl⟩ := ri
  obtain ⟨its, n, r, ho, hz⟩ := I.lst hp
  obtain ⟨h1, h2, h3, h4⟩ := ixN_seq hj
  have hl := r.length
  have hn := line63
  have I' : Inv X pins σ (upd H p (.lst (xs.set j v))) { s with heap := s.heap.update p (Obj.mapSeq (·.setIfInBounds j u)) } :=
    I.lstUpd hp ho (mapSeq_set its n j u) (r.set rv j) (by rw [List.length_set]; exact hz) s.toks
  by_cases h0 : 0 ≤ k
  · have hk : k.toNat = j := by
      rw [seqIndex_of h0 h4] at h1
      exact Option.some.inj h1
    exact PySem.W.ki_setAt ho h0 (by omega) (by rw [List.size_toArray, ← hl]; exact h4) (by rw [hk]; exact ⟨_, I', q⟩)
  · have hk : (k + (its.toArray.size : Int)).toNat = j := by
      rw [seqIndex_neg (by omega) h3] at h1
      rw [List.size_toArray, ← hl]
      exact Option.some.inj h1
    exact PySem.W.ki_setBack ho (by omega) (by rw [List.size_toArray, ← hl]; exact h3) (by omega) (by rw [hk]; exact ⟨_, I', q⟩)

/-! ### slices -/
theorem slice_bounds (lo hi : Option Int) (n : Nat) : (sliceBounds lo hi none n).1 = ((HT.sIx n 0 lo : Nat) : Int) ∧ (sliceBounds lo hi none n).2.1 = ((HT.sIx n n hi : Nat) : Int) ∧ (sliceBounds lo hi none n).2.2 = 1 := by
  refine ⟨?_, ?_, rfl⟩
  · cases lo with
    | none => simp [sliceBounds, HT.sIx]
    | some i =>
      simp only [sliceBounds, HT.sIx, Option.getD_none, show (1 : Int) > 0 by decide, if_true]
      by_cases h : i < 0
      · simp only [h, if_true] <;> omega
      · simp only [h, if_false] <;> omega
  · cases hi with
    | none => simp [sliceBounds, HT.sIx]
    | some i =>
      simp only [sliceBounds, HT.sIx, Option.getD_none, show (1 : Int) > 0 by decide, if_true]
      by_cases h : i < 0
      · simp only [h, if_true] <;> omega
      · simp only [h, if_false] <;> omega
theorem slicePick_cut (its : List Value) (lo hi : Option Int) : slicePick its.toArray lo hi none = ((its.drop (HT.sIx its.length 0 lo)).take (HT.sIx its.length its.length hi - HT.sIx its.length 0 lo)).toArray := by
  obtain ⟨h1, h2, h3⟩ := slice_bounds lo hi its.toArray.size
  unfold slicePick
  rw [h1, h2, h3]
  simp only [sliceRange_one, pick_run, List.size_toArray] <;> rfl
/-- xs[lo:hi] of a list: a new list -/
def rSlL (K : PySem.W.Frag) : V → Option Int → Option Int → Hp → VK → Prop := fun x lo hi H Q => ∃ a xs, x = .ref a ∧ SqL K H a xs ∧ ∀ p, H p = none → Q (.ref p) (upd H p (.lst (cutV xs lo hi)))
theorem sl_list : SlR X (rSlL X.K) := by
  intro pins s σ H x v vl vu lo hi sl Q I rx hs pl pu h
  obtain ⟨a, xs, rfl, hx, q⟩ := h
  cases rx
  obtain ⟨its, r, ht, hz⟩ := I.list hx
  have hlen := r.length
  refine ⟨"list", _, slot_list_getitem.lookup, ht.isList.typeIs, ?_⟩
  refine wpAny_getItem_list_slice ht.isList hs pl pu .none (by simp) ?_ (by rw [List.size_toArray] <;> omega)
  rw [slicePick_cut, ← hlen]
  refine ⟨.ref s.heap.objs.size, _, I.laid (t' := s.toks) (o := .lst (cutV xs lo hi)) (fun b ob q => Heap.get?_push_of_some _ q) (Nat.le_refl _) ?_, rfl, q _ (I.hok.fresh (Nat.le_refl _))⟩
  exact ⟨Nat.le_trans (cutV_length xs lo hi) hz, _, 0, (r.drop (HT.sIx xs.length 0 lo)).take (HT.sIx xs.length xs.length hi - HT.sIx xs.length 0 lo), Heap.get?_push_size _ rfl⟩

/-! ### in, not in: flat items -/
def flatV : V → Bool
  | .non => true
  | .bl _ => true
  | .int _ => true
  | .str _ => true
  | _ => false
/-- == of flat values -/
def eqV : V → V → Bool
  | .non, .non => true
  | .bl a, .bl b => a == b
  | .bl a, .int b => (if a then 1 else 0) == b
  | .int a, .bl b => a == (if b then 1 else 0)
  | .int a, .int b => a == b
  | .str a, .str b => a == b
  | _, _ => false
theorem eqAt_V {A : Around} {s : Shared} {y x : V} {u v : Value} (ry : RelV y u) (rx : RelV x v) (fy : flatV y = true) (fx : flatV x = true) : SeqAt.EqAt A s u v (eqV y x) := by
  cases y with
  | non =>
    cases ry
    cases x with
    | non => cases rx; exact SeqAt.EqAt.same _
    | bl b => cases rx; exact SeqAt.EqAt.none_bool b
    | int b => obtain ⟨t, rfl⟩ := rx; exact SeqAt.EqAt.none_int b t
    | str b => obtain ⟨t, rfl⟩ := rx; exact SeqAt.EqAt.none_str b t
    | _ => exact absurd (show false = true from fx) Bool.false_ne_true
  | bl a =>
    cases ry
    cases x with
    | non => cases rx; exact SeqAt.EqAt.bool_none a
    | bl b => cases rx; exact SeqAt.EqAt.bool_bool a b
    | int b => obtain ⟨t, rfl⟩ := rx; exact SeqAt.EqAt.bool_int a b t
    | str b => obtain ⟨t, rfl⟩ := rx; exact SeqAt.EqAt.bool_str a b t
    | _ => exact absurd (show false = true from fx) Bool.false_ne_true
  | int a =>
    obtain ⟨t', rfl⟩ := ry
    cases x with
    | non => cases rx; exact SeqAt.EqAt.int_none a t'
    | bl b => cases rx; exact SeqAt.EqAt.int_bool a t' b
    | int b => obtain ⟨t, rfl⟩ := rx; exact SeqAt.EqAt.int_int a t' b t
    | str b => obtain ⟨t, rfl⟩ := rx; exact SeqAt.EqAt.int_str a t' b t
    | _ => exact absurd (show false = true from fx) Bool.false_ne_true
  | str a =>
    obtain ⟨t', rfl⟩ := ry
    cases x with
    | non => cases rx; exact SeqAt.EqAt.str_none a t'
    | bl b => cases rx; exact SeqAt.EqAt.str_bool a t' b
    | int b => obtain ⟨t, rfl⟩ := rx; exact SeqAt.EqAt.str_int a t' b t
    | str b => obtain ⟨t, rfl⟩ := rx; exact SeqAt.EqAt.str_str a t' b t
    | _ => exact absurd (show false = true from fx) Bool.false_ne_true
  | _ => exact absurd (show false = true from fy) Bool.false_ne_true
/-- the items' answers, read off the values (a value's own answer does not lean on its token) -/
def eqU (x : V) (u : Value) : Bool := match u with
  | .none => eqV .non x
  | .bool b => eqV (.bl b) x
  | .int i _ => eqV (.int i) x
  | .str z _ => eqV (.str z) x
  | _ => false
theorem eqU_of {x y : V} {u : Value} (r : RelV y u) (f : flatV y = true) : eqU x u = eqV y x := by
  cases y with
  | non => cases r; rfl
  | bl b => cases r; rfl
  | int i => obtain ⟨t, rfl⟩ := r; rfl
  | str z => obtain ⟨t, rfl⟩ := r; rfl
  | _ => exact absurd (show false = true from f) Bool.false_ne_true
theorem any_eqU {x : V} : ∀ {xs : List V} {us : List Value}, Vals xs us → xs.all flatV = true → us.any (eqU x) = xs.any fun y => eqV y x
  | _, _, .nil, _ => rfl
  | y :: xs, u :: us, .cons r t, f => by
    rw [List.all_cons, Bool.and_eq_true] at f
    rw [List.any_cons, List.any_cons, eqU_of r f.1, any_eqU t f.2]
theorem mem_eqAt {A : Around} {s : Shared} {x : V} {v : Value} (rx : RelV x v) (fx : flatV x = true) : ∀ {xs : List V} {us : List Value}, Vals xs us → xs.all flatV = true → ∀ u ∈ us, SeqAt.EqAt A s u v (eqU x u)
  | _, _, .nil, _ => fun u hu => by cases hu
  | y :: xs, u :: us, .cons r t, f => fun u' hu => by
    rw [List.all_cons, Bool.and_eq_true] at f
    rcases List.mem_cons.mp hu with rfl | hu
    · rw [eqU_of r f.1]; exact eqAt_V r rx f.1 fx
    · exact mem_eqAt rx fx t f.2 u' hu
def inV (x : V) (xs : List V) : Bool := xs.any fun y => eqV y x
/-- x in a list or tuple of flat items -/
def rIn (K : PySem.W.Frag) (neg : Bool) : R2 := fun x y H Q => ∃ p xs, y = .ref p ∧ (SqL K H p xs ∨ SqT K H p xs) ∧ flatV x = true ∧ xs.all flatV = true ∧ Q (.bl (if neg then !inV x xs else inV x xs)) H
theorem op_in_seq : OpR X (compareOp .In) (rIn X.K false) := by
  intro pins s σ H x y v u Q I rx ry h
  obtain ⟨p, xs, rfl, hq, fx, fs, q⟩ := h
  cases ry
  rcases hq with hq | hq
  · obtain ⟨its, r, pl, hz⟩ := I.list hq
    refine SeqAt.in_listAt (eqU x) pl.isList (fun w hw => mem_eqAt rx fx r fs w (by simpa using hw)) ⟨.bl _, H, I, rfl, ?_⟩
    rw [show its.toArray.any (eqU x) = its.any (eqU x) by simp, any_eqU r fs]
    exact q
  · obtain ⟨its, r, pl, hz⟩ := I.tuple hq
    refine SeqAt.in_tupleAt (eqU x) pl (fun w hw => mem_eqAt rx fx r fs w (by simpa using hw)) ⟨.bl _, H, I, rfl, ?_⟩
    rw [show its.toArray.any (eqU x) = its.any (eqU x) by simp, any_eqU r fs]
    exact q
theorem op_notIn_seq : OpR X (compareOp .NotIn) (rIn X.K true) := by
  intro pins s σ H x y v u Q I rx ry h
  obtain ⟨p, xs, rfl, hq, fx, fs, q⟩ := h
  cases ry
  rcases hq with hq | hq
  · obtain ⟨its, r, pl, hz⟩ := I.list hq
    refine SeqAt.notIn_listAt (eqU x) pl.isList (fun w hw => mem_eqAt rx fx r fs w (by simpa using hw)) ⟨.bl _, H, I, rfl, ?_⟩
    rw [show its.toArray.any (eqU x) = its.any (eqU x) by simp, any_eqU r fs]
    exact q
  · obtain ⟨its, r, pl, hz⟩ := I.tuple hq
    refine SeqAt.notIn_tupleAt (eqU x) pl (fun w hw => mem_eqAt rx fx r fs w (by simpa using hw)) ⟨.bl _, H, I, rfl, ?_⟩
    rw [show its.toArray.any (eqU x) = its.any (eqU x) by simp, any_eqU r fs]
    exact q

/-! ### len, list(x), tuple(x) of any list or tuple that is read -/
theorem call_len_seq : CallR X (.builtin "len") (fun xs H Q => ∃ p ys, xs = [.ref p] ∧ (SqL X.K H p ys ∨ SqT X.K H p ys) ∧ Q (.int ys.length) H) := by
  intro pins s σ H xs us Q I r h
  obtain ⟨p, ys, rfl, hq, q⟩ := h
  obtain ⟨u, rfl, rx⟩ := vals1 r
  cases rx
  have hn := line63
  rcases hq with hq | hq
  · obtain ⟨its, r', pl, hz⟩ := I.list hq
    have hlen := r'.length
    exact Calls.call_len_list pl.isList (by simp only [List.size_toArray] <;> omega) ⟨.int ys.length, H, I.tok _, ⟨s.toks + 1, by rw [List.size_toArray, hlen]⟩, q⟩
  · obtain ⟨its, r', pl, hz⟩ := I.tuple hq
    have hlen := r'.length
    exact len_tuple pl (by simp only [List.size_toArray] <;> omega) ⟨.int ys.length, H, I.tok _, ⟨s.toks + 1, by rw [List.size_toArray, hlen]⟩, q⟩
theorem call_list_of : CallR X (.type "list") (fun xs H Q => ∃ p ys, xs = [.ref p] ∧ (SqL X.K H p ys ∨ SqT X.K H p ys) ∧ ∀ l, H l = none → Q (.ref l) (upd H l (.lst ys))) := by
  intro pins s σ H xs us Q I r h
  obtain ⟨p, ys, rfl, hq, q⟩ := h
  obtain ⟨u, rfl, rx⟩ := vals1 r
  cases rx
  have fin : ∀ (its : List Value), Vals ys its → ys.length ≤ sizeLine → ∀ (h' : Heap) (c' : Nat), (∀ b o', s.heap.get? b = some o' → h'.get? b = some o') →
      h'.get? s.heap.objs.size = some { cls := .type "list", dict := none, data := .seq its.toArray c', slots := #[] } → EP X pins σ Q (.ref s.heap.objs.size) { s with heap := h' } := fun its r' hz h' c' kp e =>
    ⟨.ref s.heap.objs.size, _, I.laid (t' := s.toks) kp (Nat.le_refl _) (show ObjOk X.prog X.w _ h' _ (.lst ys) from ⟨hz, its, c', r', e⟩), rfl, q _ (I.hok.fresh (Nat.le_refl _))⟩
  rcases hq with hq | hq
  · obtain ⟨its, r', pl, hz⟩ := I.list hq
    have hlen := r'.length
    obtain ⟨o, ho, hc, n, hd⟩ := pl.isList
    exact call_list_seq p (.inl rfl) ho hc hd (fun h' c' kp e => fin its r' hz h' c' kp e) (by simp only [List.size_toArray] <;> omega)
  · obtain ⟨its, r', pl, hz⟩ := I.tuple hq
    have hlen := r'.length
    obtain ⟨o, ho, hc, n, hd⟩ := pl
    exact call_list_seq p (.inr rfl) ho hc hd (fun h' c' kp e => fin its r' hz h' c' kp e) (by simp only [List.size_toArray] <;> omega)

/-! ### the call of a builtin's method: o.m(..) -/
/-- the value is of that builtin type -/
def tyV (K : PySem.W.Frag) (T : String) (x : V) (H : Hp) : Prop := match x with
  | .str _ => T = "str"
  | .int _ => T = "int"
  | .ref p => (T = "list" ∧ ∃ xs, SqL K H p xs) ∨ (T = "tuple" ∧ ∃ o, K.lookup p = some o ∧ o.cls = .type "tuple" ∧ o.dict = none) ∨
      (T = "dict" ∧ ((∃ kvs, H p = some (.dK kvs)) ∨ ∃ kvs, H p = some (.dT kvs))) ∨ (T = "set" ∧ ∃ S n, H p = some (.set S n))
  | _ => False
theorem tyV_is {pins : List (Addr × Obj)} {σ : St} {H : Hp} {s : Shared} {T : String} {x : V} {v : Value} (I : Inv X pins σ H s) (r : RelV x v) (ty : tyV X.K T x H) :
    s.TypeIs v T ∧ ∀ a, v = .ref a → ∃ ob, s.heap.get? a = some ob ∧ ob.dict = none := by
  cases x with
  | str z =>
    obtain ⟨t, rfl⟩ := r
    cases (show T = "str" from ty)
    exact ⟨typeIs_str s z t, fun _ e => nomatch e⟩
  | int i =>
    obtain ⟨t, rfl⟩ := r
    cases (show T = "int" from ty)
    exact ⟨typeIs_int s i t, fun _ e => nomatch e⟩
  | ref p =>
    cases r
    rcases ty with ⟨rfl, xs, hq⟩ | ⟨rfl, o, hk, hc, hd⟩ | ⟨rfl, hk⟩ | ⟨rfl, S, n, hk⟩
    · obtain ⟨its, _, pl, _⟩ := I.list hq
      refine ⟨pl.isList.typeIs, fun a e => ?_⟩
      cases e
      obtain ⟨o, n, e, c, hd, _⟩ := pl
      exact ⟨o, e, hd⟩
    · refine ⟨⟨o, I.kIn p o hk, hc⟩, fun a e => ?_⟩
      cases e
      exact ⟨o, I.kIn _ o hk, hd⟩
    · have z : ∃ o, s.heap.get? p = some o ∧ o.ExactDict := by
        rcases hk with ⟨kvs, hk⟩ | ⟨kvs, hk⟩
        · obtain ⟨_, _, _, _, o, _, _, e, ex, _⟩ := I.hok p _ hk
          exact ⟨o, e, ex⟩
        · obtain ⟨_, _, _, _, o, _, _, e, ex, _⟩ := I.hok p _ hk
          exact ⟨o, e, ex⟩
      obtain ⟨o, e, ex⟩ := z
      refine ⟨⟨o, e, ex.1⟩, fun a e2 => ?_⟩
      cases e2
      exact ⟨o, e, ex.2.1⟩
    · obtain ⟨o, _, _, _, e, ex, _⟩ := I.hok p _ hk
      refine ⟨⟨o, e, ex.1⟩, fun a e2 => ?_⟩
      cases e2
      exact ⟨o, e, ex.2.1⟩
  | _ => exact False.elim ty
def tBM0 (K : PySem.W.Frag) (T : String) (r : V → List V → Hp → VK → Prop) (to : TE) : TE := fun σ H Q => to σ H fun x H1 => tyV K T x H1 ∧ r x [] H1 Q
def tBM (K : PySem.W.Frag) (T : String) (r : V → List V → Hp → VK → Prop) (to : TE) (t : TA) : TE := fun σ H Q => to σ H fun x H1 => tyV K T x H1 ∧ t σ H1 fun xs H2 => r x xs H2 Q
variable {o e : Expr} {es : List Expr} {to : TE} {t : TA} {name : Str} {apos cpos : Pos} {T id : String} {r : V → List V → Hp → VK → Prop}
theorem pe_bm0 (pa : PlainAttrs T) (slot : Slot T name id) (hty : typeOf (.builtin id) = pure (.type "method_descriptor")) (hm : MtR X id r) (ho : PE X o to)
    (hbase : attributeBase o name X.env (eval o X.env) = eval o X.env := by rfl) (hline : (apos.endLine == cpos.line) = true := by rfl) : PE X (.Call (.Attribute o name apos) [] [] cpos) (tBM0 X.K T r to) := by
  intro pins s σ H Q I h
  refine wpAny_Call_method0_late hbase hline (thn (ho pins s σ H _ I h) fun v s1 ⟨x, H1, I1, r1, ty, q1⟩ => ?_)
  obtain ⟨h1, h2⟩ := tyV_is I1 r1 ty
  exact ⟨T, id, pa, slot, hty, h1, h2, Calls.callWith_builtin rfl (PySem.evalArgs_none (hm pins s1 σ H1 x [] v [] Q I1 r1 .nil q1))⟩
theorem pe_bm (pa : PlainAttrs T) (slot : Slot T name id) (hty : typeOf (.builtin id) = pure (.type "method_descriptor")) (hm : MtR X id r) (ho : PE X o to) (ha : PA X (e :: es) t)
    (hbase : attributeBase o name X.env (eval o X.env) = eval o X.env := by rfl)
    (hfew : ((backTo cpos (starEach (e :: es) X.env)).all (fun x => !x.1) && (backToKw cpos (keywordEach [] X.env)).all (fun x => x.1.isSome)
      && decide ((e :: es).length + ([] : List Keyword).length + (if ([] : List Keyword).isEmpty then 0 else 1) < 30)) = true := by rfl)
    (hline : (apos.endLine == cpos.line) = true := by rfl) (hs : starEach (e :: es) X.env = (false, eval e X.env) :: starEach es X.env := by rfl) (hplain : (backTo cpos (starEach es X.env)).any (·.1) = false := by rfl) :
    PE X (.Call (.Attribute o name apos) (e :: es) [] cpos) (tBM X.K T r to t) := by
  intro pins s σ H Q I h
  refine wpAny_Call_method_late hbase hfew hline rfl (thn (ho pins s σ H _ I h) fun v s1 ⟨x, H1, I1, r1, ty, q1⟩ => ?_)
  obtain ⟨h1, h2⟩ := tyV_is I1 r1 ty
  refine ⟨T, id, pa, slot, hty, h1, h2, ?_⟩
  have hA := ha cpos pins s1 σ H1 _ I1 q1
  rw [hs] at hA ⊢
  refine Calls.callWith_builtin (by show (false || (backTo cpos (starEach es X.env)).any (·.1)) = false; rw [hplain] <;> rfl) (Calls.evalArgs_plain ?_)
  exact thn hA fun us s2 ⟨vs, H2, I2, r2, q2⟩ => hm pins s2 σ H2 x vs v us Q I2 r1 r2 q2
/- xs.append(e), list.index on a module's tuple .. are MtR facts of 06m -/
end
end L2

namespace L2
open PySem PySem.Spec PyProof.Rows

def MtM (X : Cx) (id : String) (r : V → List V → Hp → VK → Prop) : Prop :=
  ∀ (pins : List (Addr × Obj)) (s : Shared) (σ : St) (H : Hp) (x : V) (xs : List V) (v : Value) (us : List Value) (Q : VK), Inv X pins σ H s → RelV x v → Vals xs us → r x xs H Q →
    wpAny (model X.prog X.w) X.A (call (.builtin id) (v :: us)) (EP X pins σ Q) X.xe s

/-! ### lists of values -/
theorem Vals.one : ∀ {x : V} {us : List Value}, Vals [x] us → ∃ u, us = [u] ∧ RelV x u
  | _, _, .cons r .nil => ⟨_, rfl, r⟩
theorem Vals.zero : ∀ {us : List Value}, Vals [] us → us = []
  | _, .nil => rfl
theorem Vals.dropLast {xs : List V} {us : List Value} (h : Vals xs us) : Vals xs.dropLast us.dropLast := by
  induction h with
  | nil => exact .nil
  | cons r t ih =>
    cases t with
    | nil => exact .nil
    | cons q t' => exact .cons r ih
theorem Vals.reverse {xs : List V} {us : List Value} (h : Vals xs us) : Vals xs.reverse us.reverse := by
  induction h with
  | nil => exact .nil
  | cons r t ih => rw [List.reverse_cons, List.reverse_cons]; exact Vals.append ih (.cons r .nil)
theorem erase_last {α : Type} (l : List α) : l.eraseIdx (l.length - 1) = l.dropLast := by
  induction l with
  | nil => rfl
  | cons a r ih =>
    cases r with
    | nil => rfl
    | cons b r =>
      have e : (a :: b :: r).length - 1 = ((b :: r).length - 1) + 1 := by
        have h1 : (a :: b :: r).length = r.length + 2 := rfl
        have h2 : (b :: r).length = r.length + 1 := rfl
        omega
      rw [e, List.eraseIdx_cons_succ, ih]
      all_goals rfl

section
variable {X : Cx} {pins : List (Addr × Obj)} {σ : St} {H : Hp} {s : Shared} {l b : Addr} {xs ys zs : List V}

/-! ### the two steps: a tracked list is rewritten, a new list is laid -/
theorem Inv.lset {its its' : List Value} {n : Nat} {f : Array Value → Array Value} {t' : Nat} (I : Inv X pins σ H s) (hH : H l = some (.lst xs))
    (e : s.heap.get? l = some { cls := .type "list", data := .seq its.toArray n }) (hf : f its.toArray = its'.toArray) (hv : Vals ys its') (hz : ys.length ≤ sizeLine) :
    Inv X pins σ (upd H l (.lst ys)) { s with heap := s.heap.update l (Obj.mapSeq f), toks := t' } := by
  have q := PySem.IsL.update e f
  rw [hf] at q
  refine I.write (x := l) (e := l) (by rw [hH]; exact trivial) (.inl rfl) (fun b' u hb hu => (Heap.get?_update_other s.heap (Obj.mapSeq f) (Ne.symm hb)).trans hu) ⟨_, q⟩ ?_
  exact ⟨hz, its', _, hv, q⟩
theorem Inv.lnew {its : List Value} {t' : Nat} (I : Inv X pins σ H s) (hv : Vals ys its) (hz : ys.length ≤ sizeLine) :
    Inv X pins σ (upd H s.heap.objs.size (.lst ys)) { s with heap := s.heap.push { cls := .type "list", data := .seq its.toArray }, toks := t' } :=
  I.laid (fun _ _ q => Heap.get?_push_of_some _ q) (Nat.le_refl _) ⟨hz, its, 0, hv, Heap.get?_push_size _ rfl⟩
theorem Inv.fresh (I : Inv X pins σ H s) : H s.heap.objs.size = none := I.hok.fresh (Nat.le_refl _)
theorem Inv.lstM (I : Inv X pins σ H s) (hH : H l = some (.lst xs)) : xs.length ≤ sizeLine ∧ ∃ (its : List Value) (n : Nat), Vals xs its ∧ xs.length = its.length ∧ s.heap.get? l = some { cls := .type "list", data := .seq its.toArray n } := by
  obtain ⟨z, its, n, r, e⟩ := I.hok l _ hH
  exact ⟨z, its, n, r, r.length, e⟩

theorem notLongL {n : Nat} (h : n ≤ sizeLine) : Builtin.List.listTooLong n = false := by
  unfold Builtin.List.listTooLong
  exact decide_eq_false (by omega)
end

section
variable {X : Cx}

/-! ### methods -/
def rAppend : V → List V → Hp → VK → Prop := fun x vs H Q => ∃ l xs y, x = .ref l ∧ vs = [y] ∧ H l = some (.lst xs) ∧ xs.length < sizeLine ∧ Q .non (upd H l (.lst (xs ++ [y])))
theorem mt_append : MtM X "list.append" rAppend := by
  intro pins s σ H x vs v us Q I rx rv h
  obtain ⟨l, xs, y, rfl, rfl, hH, hz, q⟩ := h
  cases rx
  obtain ⟨u, rfl, ru⟩ := rv.one
  obtain ⟨z, its, n, r, hl, e⟩ := I.lstM hH
  refine call_meets F.slot_list_append ⟨_, e, rfl⟩ F.entry_list_append (F.args_list_append_2 _ _) (PySem.list_append l its.toArray n u (by rw [List.size_toArray]; omega)) ⟨e, ?_⟩
  refine ⟨.non, _, I.lset (its' := its ++ [u]) hH e (by simp) (r.append (.cons ru .nil)) ?_, rfl, q⟩
  rw [List.length_append, List.length_singleton]
  omega

def rExtend : V → List V → Hp → VK → Prop := fun x vs H Q => ∃ l b xs zs, x = .ref l ∧ vs = [.ref b] ∧ H l = some (.lst xs) ∧ H b = some (.lst zs) ∧ xs.length + zs.length ≤ sizeLine ∧ Q .non (upd H l (.lst (xs ++ zs)))
theorem mt_extend : MtM X "list.extend" rExtend := by
  intro pins s σ H x vs v us Q I rx rv h
  obtain ⟨l, b, xs, zs, rfl, rfl, hH, hB, hz, q⟩ := h
  cases rx
  obtain ⟨u, rfl, ru⟩ := rv.one
  cases ru
  obtain ⟨z, its, n, r, hl, e⟩ := I.lstM hH
  obtain ⟨z2, its2, n2, r2, hl2, e2⟩ := I.lstM hB
  have hsz : its.toArray.size + its2.toArray.size ≤ sizeLine := by rw [List.size_toArray, List.size_toArray]; omega
  have hlong : ¬ (!its.toArray.isEmpty && Builtin.List.listTooLong (its.toArray.size + its2.toArray.size)) = true := by
    rw [notLongL hsz, Bool.and_false]
    exact Bool.false_ne_true
  refine call_meets F.slot_list_extend ⟨_, e, rfl⟩ F.entry_list_extend (F.args_list_extend_2 _ _)
    (AutoSeq1.list_extend_list_list_0 l its.toArray n b its2.toArray n2 hlong (by rw [List.size_toArray]; omega) (by omega)) ⟨e, e2, ?_⟩
  refine ⟨.non, _, I.lset (its' := its ++ its2) hH e (by simp) (r.append r2) ?_, rfl, q⟩
  rw [List.length_append]
  omega

def rPop : V → List V → Hp → VK → Prop := fun x vs H Q => ∃ l xs y, x = .ref l ∧ vs = [] ∧ H l = some (.lst xs) ∧ xs[xs.length - 1]? = some y ∧ Q y (upd H l (.lst xs.dropLast))
theorem mt_pop : MtM X "list.pop" rPop := by
  intro pins s σ H x vs v us Q I rx rv h
  obtain ⟨l, xs, y, rfl, rfl, hH, hy, q⟩ := h
  cases rx
  have hus := rv.zero
  subst hus
  obtain ⟨z, its, n, r, hl, e⟩ := I.lstM hH
  obtain ⟨u, hu, ru⟩ := r.get hy
  have hy' : its.toArray[its.toArray.size - 1]? = some u := by
    show its.toArray[its.length - 1]? = some u
    rw [← Array.getElem?_toList, ← hl]
    exact hu
  refine call_meets F.slot_list_pop ⟨_, e, rfl⟩ F.entry_list_pop (F.args_list_pop_1 _) (MeetsSeq.list_pop_last l its.toArray n u hy' (by rw [List.size_toArray]; omega)) ⟨e, ?_⟩
  refine ⟨y, _, I.lset (its' := its.dropLast) hH e ?_ r.dropLast ?_, ru, q⟩
  · show its.toArray.eraseIdxIfInBounds (its.toArray.size - 1) = its.dropLast.toArray
    rw [List.size_toArray, List.eraseIdxIfInBounds_toArray, erase_last]
  · rw [List.length_dropLast]
    omega




/-! ### list + list, list += list, list * int -/
def rCat : R2 := fun x y H Q => ∃ l b xs zs, x = .ref l ∧ y = .ref b ∧ H l = some (.lst xs) ∧ H b = some (.lst zs) ∧ xs.length + zs.length ≤ sizeLine ∧ ∀ p, H p = none → Q (.ref p) (upd H p (.lst (xs ++ zs)))
theorem op_cat : OpR X (binaryOp .Add) rCat := by
  intro pins s σ H x y v u Q I rx ry h
  obtain ⟨l, b, xs, zs, rfl, rfl, hH, hB, hz, q⟩ := h
  cases rx
  cases ry
  obtain ⟨z, its, n, r, hl, e⟩ := I.lstM hH
  obtain ⟨z2, its2, n2, r2, hl2, e2⟩ := I.lstM hB
  refine PySem.P.add_list e e2 ?_ (by rw [List.size_toArray, List.size_toArray]; omega)
  have ea : its.toArray ++ its2.toArray = (its ++ its2).toArray := by simp
  rw [ea]
  exact ⟨.ref _, _, I.lnew (t' := s.toks) (r.append r2) (by rw [List.length_append]; omega), rfl, q _ I.fresh⟩

/-! ### del xs[i] -/
end

/-! ### xs[a:b] = ys -/
section
variable {prog : Program} {w : World} {A : Around} {E : Value → Shared → Prop} {s : Shared}
set_option maxRecDepth 100000 in
end

section
variable {X : Cx}
end
end L2

namespace Att
open PySem PySem.W PySem.Calls PyProof.Rows

/-! ### the script -/
theorem ints_of_wellAll {P : Params} {h : Heap} : ∀ (ns : List Int) (vs : List Value), WellAll P h vs (ns.map WData.int) → IntsAre vs ns := by
  intro ns
  induction ns with
  | nil =>
    intro vs w
    rw [List.map_nil] at w
    cases w
    exact .nil
  | cons n ns ih =>
    intro vs w
    rw [List.map_cons] at w
    cases w with
    | cons a b =>
      cases a
      exact .cons _ _ (ih _ b)

theorem script_of {l : OpenLaw} {n : Nat} (hn : l.most = some n) {P : Params} {h : Heap} {args : List WData} {vals : List Value}
    (hpre : l.row.toRowW.claim.pre args = true) (hwl : WellAll P h vals args) :
    ∃ a vs ns, vals = [Value.ref a] ∧ args = [WData.list (ns.map WData.int)] ∧ h.get? a = some { cls := .type "list", data := .seq vs.toArray } ∧ IntsAre vs ns ∧ ns.length ≤ n := by
  have hsh : WShape.hasAll [] args [.list .int] = true := (pre_splitW hpre).1
  have hc : l.pre.holds [] { args := args } = true := (pre_splitW hpre).2
  obtain ⟨d, r, rfl, h1, h2⟩ := hasAllW_cons hsh
  obtain rfl := hasAllW_nil h2
  obtain ⟨xs, rfl, h3⟩ := hasW_list h1
  obtain ⟨ns, rfl⟩ := items_int h3
  have hlen : ns.length ≤ n := by
    unfold OpenLaw.pre at hc
    have h4 : (WTm.not (.lt (.lit (.int (n : Int))) (.len (.arg 0)))).holds [] { args := [.list (ns.map .int)] } = true := by
      have h4 := (holds_andW hc).1
      rw [hn] at h4
      exact h4
    have h5 := condW_of h4 (w_not (w_lt w_lit (w_len_list (w_arg rfl))))
    rw [List.length_map] at h5
    refine Nat.le_of_not_lt fun q => ?_
    have q' : (n : Int) < ((ns.length : Nat) : Int) := by omega
    first
      | (rw [decide_eq_true q'] at h5; exact absurd h5 (by decide))
      | (simp at h5; omega)
  cases hwl with
  | cons w1 w2 =>
    cases w2
    cases w1 with
    | list ho hall => exact ⟨_, _, ns, rfl, rfl, ho, ints_of_wellAll ns _ hall, hlen⟩

theorem post_true (l : OpenLaw) (args : List WData) : l.row.toRowW.claim.post args (.bool true) args = true :=
  postW_of (r := l.row.toRowW) (X := (true == true))
    (show WShape.has [] (.bool true) .bool = true by first | rfl | decide | simp [WShape.has, WShape.arms, WShape.armsAll])
    (show (WTm.eq .res (.lit (.bool true))).value [] { args := args, res := some (.bool true), after := args } = some (.bool (true == true)) from w_eq_bool (w_res rfl) w_lit) rfl

/-! ### the attachment: holds_open's last premise (the goal 'hc' behind k_head) from a wpAny of the law's body -/

/-- the same from a codeAny of the CALL (for a layer whose function contracts speak of calls) -/
theorem attach_call {l : OpenLaw} {n : Nat} {q : Program} {loose : List Str} {XP : (Str → Option Value) → Heap → Prop} {YP : World → Heap → Prop} {d : DefRec}
    (hn : l.most = some n) (hdf : d.params.defaults = [])
    (call : ∀ (w : World) (s₀ s₁ : Shared) (mg mb : Str → Option Value) (fa : Addr) (o : Obj) (pm cd doc : Value) (a : Addr) (vs : List Value) (ns : List Int),
      Ground q loose [] XP w s₀ mg mb s₁.heap → YP w s₁.heap →
      s₁.heap.get? fa = some o → o.data = .func (docDef d.name d.params d.body d.scope pm cd doc) → s₁.heap.CodeRec cd d.name → mg d.name = some (.ref fa) →
      s₁.heap.get? a = some { cls := .type "list", data := .seq vs.toArray } → IntsAre vs ns → ns.length ≤ n → s₁.gens = #[] →
      codeAny (model l.prog w) callerA (.call (.ref fa) ⟨[.ref a], []⟩) (fun r s' => r = .ok (.ret (.bool true)) ∧ OldK s₁.heap s'.heap ∧ s'.os = s₁.os ∧ AllBare s'.gens) s₁) :
    WalkO q loose XP YP l.row.toRowW d [] (fun f vs => PySem.call f vs) := by
  intro w s₀ s₁ mg mb G Y fa o pm cd doc dV kV ho hd hcd hD hmg hg args vals as hpre hlay hrd hwl hlo
  obtain rfl : dV = .none := Dflts.none hD hdf
  obtain rfl : kV = .none := Dflts.noKw hD
  obtain ⟨a, vs, ns, rfl, rfl, hobj, hints, hlen⟩ := script_of hn hpre hwl
  refine enter_call (codeAny_mono (call w s₀ s₁ mg mb fa o pm cd doc a vs ns G Y ho (fd_plain hd) hcd hmg hobj hints hlen hg) fun r s' hq => ?_)
  obtain ⟨rfl, h2, h3, h4⟩ := hq
  exact ⟨.inl ⟨.bool true, .bool true, [], rfl, fun _ => rfl, .bool true, post_true l _, fun _ => ⟨List.Pairwise.nil, fun _ hm => (nomatch hm)⟩⟩, h2, h3, h4⟩


/-! ### rules over ANY heap (no ledger) from facts about the written part K: the library's own take a ledger (News) for what they write -/
section
variable {prog : Program} {w : World} {A : Around} {E : Value → Shared → Prop} {s : Shared} {K : Frag}





/-! the whole heap as the ledger: makes every rule that writes through a ledger a rule over any heap -/

end
end Att

namespace L2
open PySem PySem.Spec PyProof.Rows

theorem vals_ints : ∀ {vs : List Value} {ns : List Int}, IntsAre vs ns → Vals (ns.map V.int) vs
  | _, _, .nil => .nil
  | _, _, .cons n t h => .cons ⟨t, rfl⟩ (vals_ints h)

/-- nothing is tracked but the script, known to the object (or it is an object of the module) -/
def Only (H : Hp) : Prop := ∀ b, H b = none ∨ ∃ o xs, H b = some (.frz o (.lst xs))

/-- THE HEAD: the law's promise, at the heap behind the top. F, the promise of the law's def, may use that base is part of the heap (so K.In base, base.Ns mainGlobals mg stand in Mod) -/
theorem law_call {P : Program} {w : World} {K : PySem.W.Frag} {mg mb : Str → Option Value} {CX : CXT} {k : Nat} {fa a : Addr} {fd : FuncData} {x : Str} {sp : Sp} {s₁ : Shared} {vs : List Value} {ns : List Int}
    (KX : K.In s₁.heap) (hns : s₁.heap.Ns mainGlobals mg) (hb : s₁.heap.Ns builtinsNs mb) (hbb : ∀ x : Str, x ≠ "__name__" → mb x = bootBuiltins x) (hlim : s₁.heap.NoLimit) (hg : s₁.gens = #[])
    (ha : s₁.heap.get? a = some { cls := .type "list", data := .seq vs.toArray }) (hi : IntsAre vs ns) (hl : ns.length ≤ sizeLine) (hr : Room k callerA)
    (F : ∀ base : Heap, K.In base → base.Ns mainGlobals mg → FnOk P w K mg base CX k fa fd [x] sp) (hbind : ∀ (s : Shared) (u : Value), BindsTo s fd ⟨[u], []⟩ [(x, u)])
    (hsp : ∀ H : Hp, Only H → SqL K H a (ns.map V.int) → sp [.ref a] H (fun v _ => v = .bl true) fun _ _ _ => False)
    (hCX : ∀ H e s', CX [] H s₁ (fun _ _ _ => False) e s' → False) :
    codeAny (model P w) callerA (.call (.ref fa) ⟨[.ref a], []⟩) (fun r s' => r = .ok (.ret (.bool true)) ∧ OldK s₁.heap s'.heap ∧ s'.os = s₁.os ∧ AllBare s'.gens) s₁ := by
  have rv := vals_ints hi
  have lenV := hi.length
  -- from an abstract heap in which nothing but the script may be tracked
  have core : ∀ H : Hp, Only H → SqL K H a (ns.map V.int) → HOk P w H s₁.heap → (∀ b, H b ≠ none → b = a) → (H a ≠ none → K.lookup a = none) →
      codeAny (model P w) callerA (.call (.ref fa) ⟨[.ref a], []⟩) (fun r s' => r = .ok (.ret (.bool true)) ∧ OldK s₁.heap s'.heap ∧ s'.os = s₁.os ∧ AllBare s'.gens) s₁ := by
    intro H hO hS hok hA hK
    have base_of : ∀ {b : Addr} {o : Obj}, s₁.heap.get? b = some o → H b = none → (hidT s₁.heap H).get? b = some o := fun e n => hidT_get e n
    have noA : ∀ {b : Addr} {o : Obj} {es : Array DictEntry} {ep : Nat}, s₁.heap.get? b = some o → o.data = .dict es ep → H b = none := fun {b o es ep} e d => by
      cases q : H b with
      | none => rfl
      | some u =>
        have e' : b = a := hA b (by rw [q]; simp)
        subst e'
        rw [ha] at e; cases e
        have d' : Data.seq vs.toArray _ = Data.dict es ep := d
        cases d'
    have nsK : ∀ {b : Addr} {m : Str → Option Value}, s₁.heap.Ns b m → (hidT s₁.heap H).Ns b m := fun {b m} ⟨o, es, ep, e, d, r⟩ => ⟨o, es, ep, base_of e (noA e d), d, r⟩
    have hKb : K.In (hidT s₁.heap H) := fun b o e => base_of (KX b o e) (by
      cases q : H b with
      | none => rfl
      | some u =>
        have e' : b = a := hA b (by rw [q]; simp)
        subst e'
        rw [hK (by rw [q]; simp)] at e; cases e)
    have hM : Mod K mg (hidT s₁.heap H) := ⟨hKb, nsK hns, ⟨mb, nsK hb, hbb⟩, let ⟨mc, h1, h2⟩ := hlim; ⟨mc, nsK h1, h2⟩⟩
    have e0 : Env0 P w K mg (hidT s₁.heap H) callerA [] s₁ H := ⟨rfl, hM, fun b o e => of_hidT e, Nat.le_of_eq (hidT_size _ _), trivial, fun b hb => absurd (show b ∈ ([] : List Addr) from hb) (by simp), hok, .of_eq hg⟩
    refine codeAny_mono ((F _ hKb (nsK hns)).run callerA [] s₁ H ⟨[.ref a], []⟩ [.ref a] [.ref a] _ _ hr e0 (hbind s₁ (.ref a)) (.cons rfl .nil) (hsp H hO hS)) fun r s' h => ?_
    cases r with
    | error e => exact (hCX H e s' h).elim
    | ok fl =>
      cases fl with
      | next => exact False.elim h
      | brk => exact False.elim h
      | cont => exact False.elim h
      | ret u =>
        obtain ⟨v, H', os, bare, un, hok', r', q⟩ := h
        have q' : v = .bl true := q
        subst q'
        obtain rfl : u = Value.bool true := r'
        refine ⟨rfl, OldK.of_keep fun b o e => ?_, os, bare⟩
        cases q : H b with
        | none => exact un.keep b o e q (by intro z; exact absurd (show b ∈ ([] : List Addr) from z) (by simp)) (by simp)
        | some u =>
          rcases hO b with z | ⟨ob, xs, z⟩
          · rw [q] at z; cases z
          · have z2 := un.frzs b ob _ z
            obtain ⟨e1, _⟩ := hok b _ z
            obtain ⟨e2, _⟩ := hok' b _ z2
            rw [e] at e1; cases e1
            exact e2
  cases hk : K.lookup a with
  | some o =>
    -- the script is one of the module's own objects
    have e := KX a o hk
    rw [ha] at e
    cases e
    refine core (fun _ => none) (fun _ => .inl rfl) (.inr ⟨_, vs.toArray, _, hk, rfl, rfl, rfl, by rw [List.size_toArray, lenV]; exact hl, by simpa using rv⟩) (fun b u z => by have z' : (none : Option HO) = some u := z; cases z') (fun b z => absurd rfl z) fun z => absurd rfl z
  | none =>
    refine core (fun b => if b = a then some (.frz { cls := .type "list", data := .seq vs.toArray } (.lst (ns.map V.int))) else none) (fun b => ?_) (.inl (.inr ⟨{ cls := .type "list", data := .seq vs.toArray }, if_pos rfl⟩)) (fun b u z => ?_) (fun b z => ?_) fun _ => hk
    · by_cases hb : b = a
      · exact .inr ⟨_, _, if_pos hb⟩
      · exact .inl (if_neg hb)
    · by_cases hb : b = a
      · have z' := (if_pos hb).symm.trans z
        cases z'
        subst hb
        exact ⟨ha, by rw [List.length_map]; exact hl, vs, _, rv, ha⟩
      · have z' := (if_neg hb).symm.trans z
        cases z'
    · by_cases hb : b = a
      · exact hb
      · exact absurd (if_neg hb) z
end L2

namespace L2
open PySem PySem.Spec PyProof.Rows


/-- the goal that k_head leaves (case hc), from the law's promise. F gives the function object fd (K's own) once, then the promise over every base -/
theorem walk_of {l : PySem.W.OpenLaw} {n k : Nat} {q : Program} {loose : List Str} {XP : (Str → Option Value) → Heap → Prop} {YP : World → Heap → Prop} {d : DefRec} {K : Params → PySem.W.Frag} {CX : World → CXT} {sp : World → Sp} {x : Str}
    (hn : l.most = some n) (hn2 : n ≤ sizeLine) (hdf : d.params.defaults = []) (hr : Room k callerA)
    (hY : ∀ (w : World) (h : Heap), YP w h → (K w.params).In h)
    (F : ∀ (w : World) (mg : Str → Option Value) (fa : Addr) (h : Heap), (K w.params).In h → h.Ns mainGlobals mg → mg d.name = some (.ref fa) →
      ∃ fd : FuncData, (∀ (s : Shared) (u : Value), BindsTo s fd ⟨[u], []⟩ [(x, u)]) ∧
        ∀ base : Heap, (K w.params).In base → base.Ns mainGlobals mg → FnOk l.prog w (K w.params) mg base (CX w) k fa fd [x] (sp w))
    (hsp : ∀ (w : World) (H : Hp) (a : Addr) (ns : List Int), ns.length ≤ n → Only H → SqL (K w.params) H a (ns.map V.int) → sp w [.ref a] H (fun v _ => v = .bl true) fun _ _ _ => False)
    (hCX : ∀ (w : World) (H : Hp) (s : Shared) (e : Value) (s' : Shared), CX w [] H s (fun _ _ _ => False) e s' → False) :
    PySem.W.WalkO q loose XP YP l.row.toRowW d [] (fun f vs => PySem.call f vs) := by
  refine Att.attach_call hn hdf fun w s₀ s₁ mg mb fa o pm cd doc a vs ns G Y ho hd hcd hmg hobj hints hlen hg => ?_
  have KX := hY w _ Y
  obtain ⟨fd, hb, hF⟩ := F w mg fa _ KX G.T.g hmg
  exact law_call KX G.T.g G.T.b G.T.builtins G.T.nolimit hg hobj hints (Nat.le_trans hlen hn2) hr hF hb (fun H hO hS => hsp w H a ns hlen hO hS) fun H e s' => hCX w H s₁ e s'
end L2

/- THE LAST THEOREM (shape; LID, My.* are yours):
   My.Adr: a structure of the addresses that your layer names (classes, functions); My.Txt K t: a structure (Prop) of the equations over K;
   My.txt_mk : {K} {implicit addresses ..} (e1 : nsIn K mainGlobals "law" = some (some (.ref f))) (e2 : K.lookup f = some ⟨oc, od, .func (fnOf "law" "law" params body scope dV kV doc pm an cdv ct), sl⟩) (e3 : codeIn K cdv "law" = true) .. : ∃ t, My.Txt K t

set_option maxRecDepth 100000 in
set_option maxHeartbeats 0 in
theorem PySem.Challenge.cw_LID_holds : PySem.Challenge.rw_LID.Holds := by
  w_on; o_law; k_head; (case hw => w_witness2)
  k_fill
  refine L2.walk_of (l := PySem.Challenge.rw_LID) (n := 63) (k := 40) (x := "script") (CX := fun w => ..) (sp := fun _ => My.sp_law) rfl (by decide) rfl ⟨rfl, by decide, by decide⟩ (fun w h Y => PySem.W.kIn_of Y) ?F ?S ?C
  case F =>
    intro w mg fa h KX G hmg
    have T : ∃ t, My.Txt (L2.KOf KX) t := by
      dsimp only [L2.KOf]                          -- K must stand as «<heap const> w.params» for k_is
      refine' My.txt_mk ?e1 ?e2 ?e3 ..
      (case e1 => PySem.W.k_is)                    -- in the order: a name -> its address -> its object -> its parts
      (case e2 => PySem.W.k_is)
      ..
    obtain ⟨t, T⟩ := T
    have e0 := hmg.symm.trans (PySem.W.mg_of KX G T.law)
    cases e0                                       -- fa is the law's own address
    exact ⟨_, fun s u => .of_eq rfl, fun base kb nb => My.law_fn T kb nb⟩     -- if «.of_eq rfl» comes too early: refine' ⟨_, ?b, fun base kb nb => My.law_fn T kb nb⟩; exact fun s u => .of_eq rfl
  case S => exact fun w H a ns hl hO hS => ..
  case C => exact ..
(the tactic k_is has no namespace: write k_is) -/

/-! SHORT WORDS over the layer: a def of the text, its body, what a loop and a test want. -/
namespace L2
open PySem PySem.Spec PyProof.Rows

/-! ### the text by places -/
def defArgs (s : Stmt) : Arguments := match s with
  | .FunctionDef _ a _ _ _ _ _ _ _ _ => a
  | _ => { posonlyargs := [], args := [], vararg := none, kwonlyargs := [], kw_defaults := [], kwarg := none, defaults := [] }
def defBody (s : Stmt) : List Stmt := match s with
  | .FunctionDef _ _ b _ _ _ _ _ _ _ => b
  | _ => []
def defScope (s : Stmt) : Scope := match s with
  | .FunctionDef _ _ _ _ _ _ sc _ _ _ => sc
  | _ => { kind := .function, names := [], isGenerator := false, isCoroutine := false }

/-! ### no exception leaves a def -/
abbrev CX0 : CXT := fun _ _ _ _ _ _ => False
abbrev E0 : XK := fun _ _ _ => False
theorem pass0 {X : Cx} : Passes CX0 X E0 := fun _ _ _ _ _ _ _ h => h.elim

/-! ### a def (or method) of the text as it stands behind the top -/
section
variable {P : Program} {w : World} {K : PySem.W.Frag} {mg : Str → Option Value} {base : Heap}
end

/-! ### expressions in short: the name that stands in the i-th slot -/
section
variable {X : Cx}
theorem pv (i : Nat) {x : Str} {pos : Pos} (hN : X.N[i]? = some x := by rfl) (hv : Vis X.env.scope x := by first | exact Or.inl rfl | exact Or.inr (Or.inl rfl) | exact Or.inr (Or.inr rfl)) (hd : (x == ("__debug__" : Str)) = false := by decide)
    (hcd : (x == ("__classdict__" : Str)) = false := by decide) : PE X (.Name x pos) (tVar i) := pe_var hN hv hd hcd
end

/-! ### tests -/
theorem iteF {A B : Prop} (h : B) : if false = true then A else B := by
  rw [if_neg Bool.false_ne_true]
  exact h
theorem iteT {A B : Prop} (h : A) : if true = true then A else B := by
  rw [if_pos rfl]
  exact h
theorem ite2 {c A B : Prop} [Decidable c] (h1 : c → A) (h2 : ¬ c → B) : if c then A else B := by
  by_cases h : c
  · rw [if_pos h]
    exact h1 h
  · rw [if_neg h]
    exact h2 h

/-! ### heaps -/
/-- all that was tracked is as it was -/
def Same (H H' : Hp) : Prop := ∀ b o, H b = some o → H' b = some o
theorem Same.refl (H : Hp) : Same H H := fun _ _ h => h
theorem Same.trans {H H1 H2 : Hp} (a : Same H H1) (b : Same H1 H2) : Same H H2 := fun c o h => b c o (a c o h)
theorem Same.free {H H' : Hp} (e : Same H H') {l : Addr} (h : H' l = Option.none) : H l = Option.none := by
  cases q : H l with
  | none => rfl
  | some o =>
    rw [e l o q] at h
    cases h
theorem Same.seq {K : PySem.W.Frag} {H H' : Hp} {a : Addr} {xs : List V} (e : Same H H') (h : SqL K H a xs) : SqL K H' a xs := by
  rcases h with (h | ⟨o, h⟩) | h
  · exact .inl (.inl (e _ _ h))
  · exact .inl (.inr ⟨o, e _ _ h⟩)
  · exact .inr h

end L2

set_option maxRecDepth 100000
namespace Fly
open PySem
open Sem (wp)

/-- the heap behind a look at an exception: all but e, the old traceback and the frames is as it was -/
structure Lit (fr old : List Addr) (e T : Addr) (cls : Value) (od : Option Addr) (fl : Value) (h h' : Heap) : Prop where
  kp : ∀ b o, b ≠ e → b ∉ old → b ∉ fr → h.get? b = some o → h'.get? b = some o
  sl : ∀ b o, b ≠ e → b ∉ old → h.get? b = some o → ∃ sl, h'.get? b = some { o with slots := sl }
  ol : ∀ b o, h.get? b = some o → ∃ o', h'.get? b = some o'
  ex : ∃ oe vs, h'.get? e = some oe ∧ oe.cls = cls ∧ oe.dict = od ∧ oe.data = .fields vs ∧ vs[1]? = some (.ref T)
  tr : ∃ oT ts, h'.get? T = some oT ∧ oT.data = .fields ts ∧ ts[3]? = some fl
  new : h.get? T = none
  ne : T ≠ e

section
variable {M : Model} {A : Around} {E : Value → Shared → Prop} {s : Shared} {base : Heap} {env : Env} {outer : List Env} {L e : Addr}

theorem entry {oe : Obj} {vs : Array Value} {head : Value} {nx : Bool} {Q : Unit → Shared → Prop}
    (hfr : A.frames = some (env :: outer)) (hl : s.heap.FunFrames base (env :: outer)) (hf : env.frame = some L)
    (he : s.heap.get? e = some oe) (hd : oe.data = .fields vs) (hsz : 1 < vs.size)
    (h : ∀ h' T, Lit ((env :: outer).filterMap (·.frame)) [] e T oe.cls oe.dict (rawInt L) s.heap h' → Q () { s with heap := h' }) :
    wpAny M A (do let a ← frameOf env; let pl ← entryPlaceOf L nx; let b ← EntryCells.newEntry head a .none (rawInt L) .none pl; setField (.ref e) 1 b) Q E s := by
  have hne : e ∉ (env :: outer).filterMap (·.frame) := fun z => by
    obtain ⟨_, o, q, n⟩ := hl.mem z
    rw [he] at q; cases q
    exact n vs hd
  refine wpAny_bind (wpAny_frameOf_fun hfr hl hf fun h1 hs => ?_)
  obtain ⟨z1, z2, z3⟩ := hs
  refine wpAny_bind (wpAny_entryPlaceOf fun pl hpl => ?_)
  unfold EntryCells.newEntry newFields
  refine wpAny_bind (wpAny_newObj_type ?_ (hpl.sizeOk5 _ _ _ _ _))
  generalize hob : ({ cls := .type "traceback", dict := none, data := .fields ([head, .ref L, .none, rawInt L, .none] ++ (if pl.isEmpty then List.replicate 6 Value.none else pl)).toArray } : Obj) = ob
  have he1 : h1.get? e = some oe := (z2 e hne).trans he
  have he2 := Heap.get?_push_of_some (h := h1) ob he1
  refine wpAny_setField he2 hd hsz (h _ h1.objs.size ?_)
  have lt : e < h1.objs.size := Heap.lt_size he1
  have hTe : h1.objs.size ≠ e := Nat.ne_of_gt lt
  have d3 := Obj.data_mapFields hd (·.setIfInBounds 1 (Value.ref h1.objs.size))
  have he3 := Heap.get?_update_self (Obj.mapFields (·.setIfInBounds 1 (Value.ref h1.objs.size))) he2 (Obj.isFreed_of_fields d3)
  have hobf : ob.isFreed = false := by rw [← hob]; rfl
  have hT3 := (Heap.get?_update_other (h1.push ob) (Obj.mapFields (·.setIfInBounds 1 (Value.ref h1.objs.size))) (Ne.symm hTe)).trans (Heap.get?_push_size h1 hobf)
  have keep : ∀ b o, b ≠ e → h1.get? b = some o → ((h1.push ob).update e (Obj.mapFields (·.setIfInBounds 1 (Value.ref h1.objs.size)))).get? b = some o := fun b o q z => by
    rw [Heap.get?_update_other _ _ (Ne.symm q)]
    exact Heap.get?_push_of_some _ z
  have sl : ∀ b o, b ≠ e → s.heap.get? b = some o → ∃ sl, ((h1.push ob).update e (Obj.mapFields (·.setIfInBounds 1 (Value.ref h1.objs.size)))).get? b = some { o with slots := sl } := fun b o q z => by
    obtain ⟨sl, w⟩ := z3 b o z
    exact ⟨sl, keep b _ q w⟩
  refine ⟨fun b o q _ nf z => keep b o q ((z2 b nf).trans z), fun b o q _ z => sl b o q z, fun b o z => ?_, ⟨_, _, he3, Obj.cls_mapFields _ _, ?_, d3, by simp [hsz]⟩, ⟨ob, ([head, .ref L, .none, rawInt L, .none] ++ (if pl.isEmpty then List.replicate 6 Value.none else pl)).toArray, hT3, by rw [← hob], ?_⟩, ?_, hTe⟩
  · by_cases q : b = e
    · subst q; exact ⟨_, he3⟩
    · obtain ⟨sl, w⟩ := sl b o q z
      exact ⟨_, w⟩
  · obtain ⟨c, d, dt, sl⟩ := oe; cases dt <;> rfl
  · first | (simp; done) | (rcases hpl with rfl | ⟨_, _, _, _, _, _, _, rfl⟩ <;> simp)
  · exact Heap.get?_none_of_le (by rw [z1]; exact Nat.le_refl _)

/-- an exception that is new (no traceback yet), or flies (its traceback at T) -/
def Pre (h : Heap) (e : Addr) (old : List Addr) (cls : Value) (od : Option Addr) : Prop :=
  ∃ oe vs, h.get? e = some oe ∧ oe.cls = cls ∧ oe.dict = od ∧ oe.data = .fields vs ∧
    ((vs[1]? = some .none ∧ old = []) ∨ ∃ T oT ts, vs[1]? = some (.ref T) ∧ old = [T] ∧ T ≠ e ∧ h.get? T = some oT ∧ oT.data = .fields ts ∧ ts[3]? = some .none)

theorem note {old : List Addr} {cls : Value} {od : Option Addr} {Q : Unit → Shared → Prop}
    (hfr : A.frames = some (env :: outer)) (hl : s.heap.FunFrames base (env :: outer)) (hf : env.frame = some L) (hp : Pre s.heap e old cls od)
    (h : ∀ h' T, Lit ((env :: outer).filterMap (·.frame)) old e T cls od (rawInt L) s.heap h' → Q () { s with heap := h' }) : wpAny M A (noteFrame (.ref e) env) Q E s := by
  obtain ⟨oe, vs, he, hc, hdd, hd, hh⟩ := hp
  subst hc hdd
  unfold noteFrame
  simp only [hf]
  rcases hh with ⟨h1, rfl⟩ | ⟨T, oT, ts, h1, rfl, hTe, hT, hdT, h3⟩
  · refine wpAny_bind (wpAny_field he hd h1 ?_)
    rw [if_neg (by decide)]
    exact entry hfr hl hf he hd (Array.getElem?_eq_some_iff.mp h1).1 h
  · refine wpAny_bind (wpAny_field he hd h1 ?_)
    rw [if_pos (show (Value.ref T != Value.none) = true from by simp)]
    refine wpAny_bind (wpAny_field hT hdT h3 ?_)
    rw [if_neg (show ¬ ((Value.none == rawInt L) = true) from by simp [rawInt])]
    refine wpAny_bind (wpAny_setField hT hdT (Array.getElem?_eq_some_iff.mp h3).1 ?_)
    have ot : ∀ b, b ≠ T → (s.heap.update T (Obj.mapFields (·.setIfInBounds 3 Value.none))).get? b = s.heap.get? b := fun b hb => Heap.get?_update_other _ _ (Ne.symm hb)
    have isT := Heap.get?_update_self (Obj.mapFields (·.setIfInBounds 3 Value.none)) hT (Obj.isFreed_of_fields (Obj.data_mapFields hdT _))
    have nr : ∀ b o, s.heap.get? b = some o → (∀ vs, o.data ≠ .fields vs) → b ≠ T := fun b o z nf q => by
      rw [q, hT] at z; cases z; exact nf ts hdT
    refine entry hfr (hl.of_keeps fun b o z nf => ⟨o, (ot b (nr b o z nf)).trans z, rfl⟩) hf ((ot e (Ne.symm hTe)).trans he) hd (Array.getElem?_eq_some_iff.mp h1).1 fun h' T' x => h h' T' ?_
    refine ⟨fun b o q n nf z => x.kp b o q (by simp) nf ((ot b (by simpa using n)).trans z), fun b o q n z => x.sl b o q (by simp) ((ot b (by simpa using n)).trans z), fun b o z => ?_, x.ex, x.tr, ?_, x.ne⟩
    · by_cases q : b = T
      · subst q; exact x.ol _ _ isT
      · exact x.ol b o ((ot b q).trans z)
    · by_cases q : T' = T
      · subst q; have := x.new; rw [isT] at this; cases this
      · rw [← ot T' q]; exact x.new

/-- noted, and let down again -/
theorem lands {old : List Addr} {cls : Value} {od : Option Addr} {Q : Unit → Shared → Prop}
    (hfr : A.frames = some (env :: outer)) (hl : s.heap.FunFrames base (env :: outer)) (hf : env.frame = some L) (hp : Pre s.heap e old cls od)
    (h : ∀ h' T, Lit ((env :: outer).filterMap (·.frame)) old e T cls od .none s.heap h' → Q () { s with heap := h' }) :
    wpAny M A (noteFrame (.ref e) env) (fun _ s' => wpAny M A (setFlight (.ref e) none) Q E s') E s := by
  refine note hfr hl hf hp fun h1 T x => ?_
  obtain ⟨oe, vs, he, hc, hdd, hd, h1'⟩ := x.ex
  obtain ⟨oT, ts, hT, hdT, h3⟩ := x.tr
  have hsz : 3 < ts.size := (Array.getElem?_eq_some_iff.mp h3).1
  refine wpAny_setFlight_none (s := { s with heap := h1 }) he hd h1' hT hdT hsz (h _ T ?_)
  have ot : ∀ b, b ≠ T → (h1.update T (Obj.mapFields (·.setIfInBounds 3 Value.none))).get? b = h1.get? b := fun b hb => Heap.get?_update_other _ _ (Ne.symm hb)
  have isT := Heap.get?_update_self (Obj.mapFields (·.setIfInBounds 3 Value.none)) hT (Obj.isFreed_of_fields (Obj.data_mapFields hdT _))
  have nT : ∀ b o, s.heap.get? b = some o → b ≠ T := fun b o z q => by rw [q, x.new] at z; cases z
  refine ⟨fun b o q n nf z => (ot b (nT b o z)).trans (x.kp b o q n nf z), fun b o q n z => ?_, fun b o z => ?_, ⟨oe, vs, (ot e (Ne.symm x.ne)).trans he, hc, hdd, hd, h1'⟩, ⟨_, _, isT, Obj.data_mapFields hdT _, by simp [hsz]⟩, x.new, x.ne⟩
  · obtain ⟨sl, w⟩ := x.sl b o q n z
    exact ⟨sl, (ot b (nT b o z)).trans w⟩
  · obtain ⟨o', w⟩ := x.ol b o z
    exact ⟨o', (ot b (nT b o z)).trans w⟩

end
end Fly

set_option Elab.async false
set_option linter.all false
set_option maxRecDepth 100000
/-! L3: what the hand layer lacks: exceptions that leave a def and are caught, own refusals raised -/
namespace L2
open PySem PySem.Spec PyProof.Rows

section
variable {P : Program} {w : World} {H H' : Hp} {h h' : Heap} {a : Addr} {o : HO}
theorem ObjOk.there (x : ObjOk P w H h a o) : ∃ ob, h.get? a = some ob := by
  cases o with
  | lst xs => obtain ⟨_, _, _, _, e⟩ := x; exact ⟨_, e⟩
  | tup xs => obtain ⟨_, _, _, ob, e, _⟩ := x; exact ⟨_, e⟩
  | dK kvs => obtain ⟨_, _, _, _, o, _, _, e, _⟩ := x; exact ⟨_, e⟩
  | dT kvs => obtain ⟨_, _, _, _, o, _, _, e, _⟩ := x; exact ⟨_, e⟩
  | set S n => obtain ⟨o, _, _, _, e, _⟩ := x; exact ⟨_, e⟩
  | ins C dx fs => obtain ⟨_, _, _, e, _⟩ := x; exact ⟨_, e⟩
  | own y => obtain ⟨_, e⟩ := x; exact ⟨_, e⟩
  | xd fs => obtain ⟨_, ⟨_, _, _, e, _⟩, _⟩ := x; exact ⟨_, e⟩
  | rng lo hi => obtain ⟨_, _, _, e⟩ := x; exact ⟨_, e⟩
  | frz ob u => obtain ⟨e, _⟩ := x; exact ⟨_, e⟩
  | tbl ps => exact ⟨_, (show h.get? a = some _ from x)⟩
  | met f y => exact ⟨_, (show h.get? a = some _ from x)⟩
  | ext φ => obtain ⟨_, ⟨_, e⟩, _⟩ := x; exact ⟨_, e⟩
theorem HOk.none_of (x : HOk P w H h) (e : h.get? a = none) : H a = none := by
  cases q : H a with
  | none => rfl
  | some u =>
    obtain ⟨ob, z⟩ := (x a u q).there
    rw [e] at z; cases z

variable {fr old fs : List Addr} {e T : Addr} {cls fl : Value} {od : Option Addr} {H₀ : Hp} {h₀ : Heap}
theorem un_lit (u : Un fs [] H₀ H h₀ h) (x : Fly.Lit fr old e T cls od fl h h') (he : h₀.get? e = none) (ho : ∀ t ∈ old, h₀.get? t = none) (hfr : ∀ b ∈ fr, b ∈ fs ∨ h₀.get? b = none) : Un fs [] H₀ H h₀ h' := by
  have ne : ∀ b o, h₀.get? b = some o → b ≠ e := fun b o q z => by rw [z, he] at q; cases q
  have no : ∀ b o, h₀.get? b = some o → b ∉ old := fun b o q z => by rw [ho b z] at q; cases q
  refine ⟨fun b o q n hb hx => ?_, fun b o q n hb hx => ?_, u.free, fun b o q hx => ?_, u.tups, u.frzs, u.tbls⟩
  · refine x.kp b o (ne b o q) (no b o q) (fun z => ?_) (u.keep b o q n hb hx)
    rcases hfr b z with z | z
    · exact hb z
    · rw [z] at q; cases q
  · obtain ⟨sl, e1⟩ := u.slot b o q n hb hx
    obtain ⟨sl', e2⟩ := x.sl b _ (ne b o q) (no b o q) e1
    exact ⟨sl', e2⟩
  · obtain ⟨o', e1⟩ := u.there b o q hx
    exact x.ol b o' e1
theorem hok_lit (k : HOk P w H h) (x : Fly.Lit fr old e T cls od fl h h') (he : H e = none) (ho : ∀ t ∈ old, H t = none) (hfr : ∀ b ∈ fr, H b = none) : HOk P w H h' := fun a o q =>
  (k a o q).stay (fun b u hb z => by
    have nb : H b ≠ none := by
      rcases hb with rfl | hb
      · rw [q]; intro z; cases z
      · rw [hb]; intro z; cases z
    exact x.kp b u (fun z => nb (z ▸ he)) (fun z => nb (ho b z)) (fun z => nb (hfr b z)) z) (fun _ q => q) fun _ _ q => q
theorem pre_lit (x : Fly.Lit fr old e T cls od .none h h') : Fly.Pre h' e [T] cls od := by
  obtain ⟨oe, vs, h1, h2, h3, h4, h5⟩ := x.ex
  obtain ⟨oT, ts, g1, g2, g3⟩ := x.tr
  exact ⟨oe, vs, h1, h2, h3, h4, .inr ⟨T, oT, ts, h5, rfl, x.ne, g1, g2, g3⟩⟩
end

/-- e flies: of the class cls, its dict at od; neither it nor its traceback stood in h₀, neither is tracked -/
def Flies (H : Hp) (h₀ h : Heap) (e : Addr) (cls : Value) (od : Option Addr) : Prop :=
  ∃ T, Fly.Pre h e [T] cls od ∧ h₀.get? e = none ∧ h₀.get? T = none ∧ H e = none ∧ H T = none
/-- how an exception lies behind a call -/
def CXE (P : Program) (w : World) : CXT := fun outer H s E e s' =>
  ∃ (a : Addr) (cls : Value) (od : Option Addr) (H' : Hp), e = .ref a ∧ s'.os = s.os ∧ AllBare s'.gens ∧ Un (frs outer) [] H H' s.heap s'.heap ∧ HOk P w H' s'.heap ∧ Flies H' s.heap s'.heap a cls od ∧ E cls od H'
theorem cxe_none {P : Program} {w : World} {outer : List Env} {H : Hp} {s s' : Shared} {e : Value} (h : CXE P w outer H s (fun _ _ _ => False) e s') : False := by
  obtain ⟨_, _, _, _, _, _, _, _, _, _, z⟩ := h
  exact z

/-- an exception that lies at e in a body's state (old: its traceback's place, if it has one) leaves the body -/
theorem leaves {P : Program} {w : World} {K : PySem.W.Frag} {mg : Str → Option Value} {base : Heap} {N : List Str} {qual : Str} {scope : Scope} {f : Addr} {cd : Value} {A : Around} {outer : List Env} {s : Shared} {H : Hp} {E : XK}
    {pins : List (Addr × Obj)} {σ : St} {H' : Hp} {s' : Shared} {e : Addr} {old : List Addr} {cls : Value} {od : Option Addr}
    (J : Inv (cxOf (CXE P w) P w K mg base N qual scope f cd A outer s H E) pins σ H' s') (hp : Fly.Pre s'.heap e old cls od) (n1 : s.heap.get? e = none) (n2 : ∀ t ∈ old, s.heap.get? t = none) (n3 : H' e = none) (n4 : ∀ t ∈ old, H' t = none)
    (q : E cls od H') : (cxOf (CXE P w) P w K mg base N qual scope f cd A outer s H E).xe (.ref e) s' := by
  show wpAny (model P w) (A.deeper (envOfC qual scope s.heap.objs.size f cd)) (leaving (envOfC qual scope s.heap.objs.size f cd) (.ref e)) _ _ s'
  unfold leaving
  refine wpAny_bind (Fly.lands (base := base) (L := s.heap.objs.size) (outer := outer) J.ok.frames J.stack rfl hp fun h' T' x => ?_)
  have sub := J.stkSub
  have fre := J.stkFree
  have hT : s.heap.get? T' = none := by
    cases z : s.heap.get? T' with
    | none => rfl
    | some o =>
      obtain ⟨o', e1⟩ := J.base.there T' o z (fun z => nomatch z)
      rw [x.new] at e1; cases e1
  refine ⟨e, cls, od, H', rfl, J.os, J.bare, un_lit J.base x n1 n2 (fun b hb => ?_), hok_lit J.hok x n3 n4 fre, ⟨T', pre_lit x, n1, hT, n3, J.hok.none_of x.new⟩, q⟩
  rcases List.mem_cons.mp (sub b hb) with z | z
  · exact .inr (by rw [z]; exact Heap.get?_none_of_le (Nat.le_refl _))
  · exact .inl z

section
variable {P : Program} {w : World} {K : PySem.W.Frag} {mg : Str → Option Value} {base : Heap} {N : List Str} {qual : Str} {scope : Scope} {f : Addr} {cd : Value} {A : Around} {outer : List Env} {s : Shared} {H : Hp} {E : XK}
/-- a callee's exception goes on to the caller's caller -/
theorem pass_on : Passes (CXE P w) (cxOf (CXE P w) P w K mg base N qual scope f cd A outer s H E) E := by
  intro pins σ H1 s1 e s' I hc
  obtain ⟨a, cls, od, H', rfl, h1, h2, h3, h4, ⟨T, hp, n1, n2, n3, n4⟩, q⟩ := hc
  have J := I.call' h1 h3 h4 h2 (fun _ z => nomatch z)
  have back : ∀ b : Addr, s1.heap.get? b = none → s.heap.get? b = none := fun b z => by
    cases y : s.heap.get? b with
    | none => rfl
    | some o =>
      obtain ⟨o', e1⟩ := I.base.there b o y (fun z => nomatch z)
      rw [z] at e1; cases e1
  exact leaves J hp (back a n1) (fun t ht => by rw [List.mem_singleton.mp ht]; exact back T n2) n3 (fun t ht => by rw [List.mem_singleton.mp ht]; exact n4) q
/-- a loop in a body lets its exceptions out -/
theorem passes_out : PassesOwn (model P w) (cxOf (CXE P w) P w K mg base N qual scope f cd A outer s H E).A (cxOf (CXE P w) P w K mg base N qual scope f cd A outer s H E).env (cxOf (CXE P w) P w K mg base N qual scope f cd A outer s H E).xe :=
  PassesOwn.leaving

/-- the wish of a body about a refusal that it raises itself -/
def Raises (X : Cx) (E : XK) : Prop := ∀ (pins : List (Addr × Obj)) (σ : St) (H : Hp) (s : Shared) (e : Addr) (cls : Value) (od : Option Addr), Inv X pins σ H s → Fly.Pre s.heap e [] cls od → X.s₀.heap.get? e = none → H e = none → E cls od H → X.xe (.ref e) s
theorem raises_of : Raises (cxOf (CXE P w) P w K mg base N qual scope f cd A outer s H E) E := fun pins σ H' s' e cls od J hp n1 n3 q =>
  leaves J hp n1 (fun _ z => nomatch z) n3 (fun _ z => nomatch z) q

end
end L2

set_option Elab.async false
set_option linter.all false
set_option maxRecDepth 100000
/-! L3: comprehensions -/
namespace L2
open PySem PySem.Spec PyProof.Rows

/-- the block of a comprehension, as a body -/
def blk (X : Cx) (scope : Scope) (cl : List (Str × Addr)) (Nc : List Str) (s₀ : Shared) (H₀ : Hp) (C : Addr) (ex : List Addr) (pn : List (Addr × Obj)) : Cx :=
  { X with N := Nc, s₀ := s₀, H₀ := H₀, env := compEnvC scope cl C X.env, outer := X.stack, ex := ex, fn := fun _ => false, pn := pn, xe := fun _ _ => False }

/-- the names that the block has from around it: their slots there -/
def FvOk (X : Cx) (sc : Scope) (cl : List (Str × Addr)) : List Str → List (Option Nat) → Prop
  | [], [] => True
  | _ :: N, none :: f => FvOk X sc cl N f
  | x :: N, some j :: f => (X.N[j]? = some x ∧ X.env.scope.names.lookup x = some .cell ∧ cl.lookup x = X.env.cells.lookup x ∧ sc.names.lookup x = some .cell) ∧ FvOk X sc cl N f
  | _, _ => False
def ClSub (X : Cx) : List (Str × Addr) → Prop
  | [] => True
  | p :: r => X.env.cells.lookup p.1 = some p.2 ∧ ClSub X r
theorem ClSub.at {X : Cx} : ∀ {cl : List (Str × Addr)}, ClSub X cl → ∀ x c, cl.lookup x = some c → X.env.cells.lookup x = some c
  | [], _, x, c, h => by simp at h
  | (y, d) :: r, ⟨h1, h2⟩, x, c, h => by
    rw [List.lookup_cons] at h
    cases e : x == y with
    | true =>
      rw [e] at h
      have e' : x = y := by simpa using e
      cases h
      rw [e']; exact h1
    | false =>
      rw [e] at h
      exact ClSub.at h2 x c h
def sig (fv : List (Option Nat)) (σ : St) : St := fv.map fun o => o.bind fun j => (σ[j]?).bind id
theorem sig_at {fv : List (Option Nat)} {σ : St} {k : Nat} {v : V} (h : (sig fv σ)[k]? = some (some v)) : ∃ j, fv[k]? = some (some j) ∧ σ[j]? = some (some v) := by
  unfold sig at h
  rw [List.getElem?_map] at h
  cases e : fv[k]? with
  | none => rw [e] at h; cases h
  | some o =>
    rw [e] at h
    cases o with
    | none => cases h
    | some j =>
      refine ⟨j, rfl, ?_⟩
      have h' : (σ[j]?).bind id = some v := Option.some.inj h
      cases e2 : σ[j]? with
      | none => rw [e2] at h'; cases h'
      | some z => rw [e2] at h'; exact congrArg some h'
theorem FvOk.at {X : Cx} {sc : Scope} {cl : List (Str × Addr)} : ∀ {N : List Str} {fv : List (Option Nat)} {k j : Nat} {x : Str}, FvOk X sc cl N fv → fv[k]? = some (some j) → N[k]? = some x →
    X.N[j]? = some x ∧ X.env.scope.names.lookup x = some .cell ∧ cl.lookup x = X.env.cells.lookup x ∧ sc.names.lookup x = some .cell
  | [], [], k, _, _, _, h, _ => by simp at h
  | [], _ :: _, _, _, _, h, _, _ => h.elim
  | y :: N, [], _, _, _, h, _, _ => h.elim
  | y :: N, none :: f, 0, _, _, _, h, _ => by simp at h
  | y :: N, none :: f, k + 1, j, x, q, h, g => FvOk.at (show FvOk X sc cl N f from q) (by simpa using h) (by simpa using g)
  | y :: N, some i :: f, 0, j, x, q, h, g => by
    have e1 : i = j := by simpa using h
    have e2 : y = x := by simpa using g
    subst e1 e2
    exact q.1
  | y :: N, some i :: f, k + 1, j, x, q, h, g => FvOk.at q.2 (by simpa using h) (by simpa using g)

structure CompOk (X : Cx) (scope : Scope) (cl : List (Str × Addr)) (Nc : List Str) (fv : List (Option Nat)) : Prop where
  clos : closureFor scope X.env = pure cl
  ncell : ∀ y ∈ scope.names, y.2 ≠ .cell
  kind : scope.kind = .function
  names : ∀ y ∈ scope.names, y.2 = .local → scope.names.lookup y.1 = some .local
  sub : ClSub X cl
  has : scope.names.all (fun y => y.2 == .local || y.2 == .globalImplicit || (cl.lookup y.1).isSome) = true
  len : fv.length = Nc.length
  fvs : FvOk X (relabel scope X.env) cl Nc fv

theorem CompOk.cells {X : Cx} {scope : Scope} {cl : List (Str × Addr)} {Nc : List Str} {fv : List (Option Nat)} (O : CompOk X scope cl Nc fv) {x : Str}
    (h : (relabel scope X.env).names.lookup x = some .cell ∨ (relabel scope X.env).names.lookup x = some .free) : ∃ c, cl.lookup x = some c := by
  have key : ∃ k, (x, k) ∈ (relabel scope X.env).names ∧ (k = .cell ∨ k = .free) := by
    rcases h with h | h
    · exact ⟨_, PySem.mem_of_lookup h, .inl rfl⟩
    · exact ⟨_, PySem.mem_of_lookup h, .inr rfl⟩
  obtain ⟨k, hk, hk2⟩ := key
  unfold relabel at hk
  obtain ⟨⟨n, k0⟩, h0, e⟩ := List.mem_map.mp hk
  dsimp only at e
  have q := List.all_eq_true.mp O.has _ h0
  have hx : n = x := by
    split at e
    · exact congrArg Prod.fst e
    · exact congrArg Prod.fst e
  have hk0 : k0 = .free := by
    split at e
    · rename_i z
      simp only [Bool.and_eq_true, beq_iff_eq] at z
      exact z.1.1
    · have e2 : k0 = k := congrArg Prod.snd e
      rcases hk2 with z | z
      · exact absurd (e2.trans z) (O.ncell _ h0)
      · exact e2.trans z
  subst hx hk0
  have q' : (cl.lookup n).isSome = true := by simpa using q
  exact Option.isSome_iff_exists.mp q'

/-- a turn of the block's loop, letOwnedTupleGo and the tests in it -/
theorem comp_loop {prog : Program} {w : World} {A : Around} {R : Result → Shared → Prop} {s : Shared} {elt target iter : Expr} {ifs : List Expr} {scope : Scope} {pos : Pos} {it acc : Value} {env : Env} (I : Nat → Shared → Prop)
    (turn : ∀ n s, I n s → wpAny (model prog w) A (pyNext it) (fun r s₁ => match r with
      | none => R (.ok .next) s₁
      | some v => wpAny (model prog w) A (letOwnedTupleGo target it v) (fun _ s₁' => wpAny (model prog w) A (assign target env v) (fun _ s₂ =>
          wpAny (model prog w) A (forIn ifs true fun c r => if r = true then do let ok ← isTrue c env (eval c env); pure (ForInStep.yield ok) else pure (ForInStep.yield r)) (fun ok s₃ =>
            if ok = true then wpAny (model prog w) A (eval elt env) (fun x s₄ =>
              wpAny (model prog w) A (call (.builtin "list.append") [acc, x]) (fun _ s₅ => ∃ m, m < n ∧ I m s₅) (fun _ _ => False) s₄) (fun _ _ => False) s₃
            else ∃ m, m < n ∧ I m s₃) (fun _ _ => False) s₂) (fun _ _ => False) s₁') (fun _ _ => False) s₁) (fun _ _ => False) s)
    (n : Nat) (h : I n s) : codeAny (model prog w) A (.compLoop (.ListComp elt [⟨target, iter, ifs, 0⟩] scope pos) 0 it acc env) R s := by
  refine codeAny_loop rfl I (fun n s hI => ?_) n h
  show wpAny _ A ((compTurn (.ListComp elt [⟨target, iter, ifs, 0⟩] scope pos) 0 it acc env).onRaise (fun x => do noteFrame x env; theTreesLotGoes x)) _ _ s
  refine wpAny_noted ?_
  rw [compTurn_list]
  have no : ∀ {E' : Value → Shared → Prop} (e : Value) (s : Shared), False → E' e s := fun _ _ z => z.elim
  refine wpAny_bind (wpAny_standAt (wpAny_bind (wpAny_mono (turn n s hI) (fun r s₁ h₁ => ?_) no)))
  cases r with
  | none => exact wpAny_pure h₁
  | some v =>
    refine wpAny_bind (wpAny_mono h₁ (fun _ s₁' h₁ => ?_) no)
    refine wpAny_bind (wpAny_mono h₁ (fun _ s₂ h₂ => wpAny_bind (wpAny_mono h₂ (fun ok s₃ h₃ => ?_) no)) no)
    cases ok with
    | false => exact wpAny_pure ⟨rfl, h₃⟩
    | true => exact wpAny_bind (wpAny_bind (wpAny_mono h₃ (fun x s₄ h₄ => wpAny_bind (wpAny_mono h₄ (fun _ s₅ h₅ => wpAny_pure (wpAny_pure ⟨rfl, h₅⟩)) no)) no))

/-- the tests of a comprehension -/
def PIf (X : Cx) (ifs : List Expr) (t : TT) : Prop :=
  ∀ (pins : List (Addr × Obj)) (s : Shared) (σ : St) (H : Hp) (Q : Bool → Hp → Prop), Inv X pins σ H s → t σ H Q →
    wpAny (model X.prog X.w) X.A (forIn ifs true fun c r => if r = true then do let ok ← isTrue c X.env (eval c X.env); pure (ForInStep.yield ok) else pure (ForInStep.yield r)) (TP X pins σ Q) X.xe s
def tYes : TT := fun _ H Q => Q true H
theorem pif_nil {X : Cx} : PIf X [] tYes := fun _ _ _ H _ I h => wpAny_tests_nil ⟨H, I, h⟩
theorem pif_one {X : Cx} {c : Expr} {t : TT} (h : PT X c t) : PIf X [c] t := fun pins s σ H Q I q => wpAny_tests_one (h pins s σ H Q I q)

/-- slots that were known are so still -/
def Wk (σ σ' : St) : Prop := σ'.length = σ.length ∧ ∀ (k : Nat) (v : V), σ[k]? = some (some v) → σ'[k]? = some (some v)
theorem Wk.refl (σ : St) : Wk σ σ := ⟨rfl, fun _ _ h => h⟩
theorem Wk.set {σ σ' : St} (h : Wk σ σ') {i : Nat} {z : Option V} (hi : σ[i]? = some none) : Wk σ (σ'.set i z) := by
  refine ⟨by rw [List.length_set]; exact h.1, fun k v e => ?_⟩
  by_cases q : i = k
  · subst q; rw [hi] at e; cases e
  · rw [List.getElem?_set_ne q]; exact h.2 k v e

def cTurn (J : It) (g : TG) (tt : TT) (te : TE) (σc : St) (p : Addr) (W : Nat → Nat → List V → Hp → Prop) (R : Hp → Prop) : Prop :=
  ∀ i m ys H, W i m ys H → H p = some (.lst ys) ∧ ((J.stop i H ∧ R H) ∨ (J.go i H ∧ ∀ x H', J.yld i H x H' → g x σc H' fun σ2 H2 => Wk σc σ2 ∧ tt σ2 H2 fun b H3 =>
    if b = true then te σ2 H3 fun y H4 => H4 p = some (.lst ys) ∧ ys.length < sizeLine ∧ ∃ m', m' < m ∧ W (i + 1) m' (ys ++ [y]) (upd H4 p (.lst (ys ++ [y])))
    else ∃ m', m' < m ∧ W (i + 1) m' ys H3))

section
variable {X : Cx} {scope : Scope} {cl : List (Str × Addr)} {Nc : List Str} {fv : List (Option Nat)} {elt tg iter : Expr} {ifs : List Expr} {pos : Pos} {g : TG} {tt : TT} {te : TE}
theorem comp_run (O : CompOk X scope cl Nc fv) (hc : X.calm = true) (hg : ∀ s₀ H₀ C ex pn, PG (blk X scope cl Nc s₀ H₀ C ex pn) tg g) (ht : ∀ s₀ H₀ C ex pn, PIf (blk X scope cl Nc s₀ H₀ C ex pn) ifs tt)
    (he : ∀ s₀ H₀ C ex pn, PE (blk X scope cl Nc s₀ H₀ C ex pn) elt te)
    {pins : List (Addr × Obj)} {σ : St} {H : Hp} {s : Shared} {J : It} {fp : List Addr} {it : Addr} {tn : Nat → Heap → Prop} {R : Addr → Hp → Prop} {RR : Value → Addr → Result → Shared → Prop} {E : Value → Shared → Prop}
    (I : Inv X pins σ H s) (T : Turn X.prog X.w X.K tg J fp it tn) (st : tn 0 s.heap) (f : ∀ b ∈ fp, FpOk X pins H b)
    (h : ∀ p, H p = none → ∃ W : Nat → Nat → List V → Hp → Prop, (∃ m, W 0 m [] (upd H p (.lst []))) ∧ cTurn J g tt te (sig fv σ) p W (R p))
    (hRR : ∀ p C s' H', Inv X pins σ H' s' → R p H' → H' C = none → (∃ m, s'.heap.Ns C m) → C ≠ X.env.locals → X.s₀.heap.objs.size ≤ C → (∀ x c, X.env.cells.lookup x = some c → c ≠ C) → (∀ q ∈ X.pn ++ pins, q.1 ≠ C) → RR (.ref p) C (.ok .next) s') :
    wpAny (model X.prog X.w) X.A (newList []) (fun acc s₃ => wpAny (model X.prog X.w) X.A (newFunctionEnv scope X.env.globals cl [] X.env.qual none .none (some X.env)) (fun cenv s₄ =>
      codeAny (model X.prog X.w) X.A (.compStart (.ListComp elt [⟨tg, iter, ifs, 0⟩] scope pos) 0 (.ref it) acc { cenv with scope := relabel scope X.env }) (RR acc cenv.locals) s₄) E s₃) E s := by
  have hp : H s.heap.objs.size = none := I.hok.fresh (Nat.le_refl _)
  obtain ⟨W, ⟨m0, w0⟩, hT⟩ := h _ hp
  refine wpAny_newObj_type (wpAny_newFunctionEnv O.ncell (by intro y hy; simp at hy) (fun h₁ hns hsb => ?_) O.kind)
  dsimp only at hns hsb ⊢
  have I3 := I.lnew (ys := []) (its := []) (t' := s.toks) .nil (Nat.zero_le _)
  generalize hs3 : ({ s with heap := s.heap.push { cls := .type "list", data := .seq ([] : List Value).toArray }, toks := s.toks } : Shared) = s3 at I3
  have hheap : s3.heap = s.heap.push { cls := .type "list", data := .seq ([] : List Value).toArray } := by rw [← hs3]
  generalize hp0 : s.heap.objs.size = p at I3 w0 hT hp
  have hC : s3.heap.objs.size = p + 1 := by rw [hheap, Heap.size_push, hp0]
  generalize hCC : (s.heap.push { cls := Value.type "list", dict := none, data := .seq ([] : List Value).toArray }).objs.size = C at hns hsb ⊢
  have hC3 : s3.heap.objs.size = C := by rw [hheap]; exact hCC
  have old : ∀ b o, s3.heap.get? b = some o → h₁.get? b = some o := fun b o e => by
    have lt : b < C := by rw [← hC3]; exact Heap.lt_size e
    refine hsb.extBut b o (Nat.ne_of_lt lt) (Heap.get?_push_of_some _ ?_)
    rw [hheap] at e
    exact e
  have ne3 : ∀ b o, s3.heap.get? b = some o → b ≠ C := fun b o e => by rw [← hC3]; exact Nat.ne_of_lt (Heap.lt_size e)
  have sub := O.sub.at
  have I4 : Inv (blk X scope cl Nc s3 (upd H p (.lst [])) C fp (X.pn ++ pins)) [] (sig fv σ) (upd H p (.lst [])) { s with heap := h₁, toks := s.toks + ([] : List (Str × Value)).length } := by
    refine ⟨⟨I3.ok.mod, ?_, I3.ok.glob, I3.ok.blt, ?_, ?_, ?_, ?_, I3.ok.hd, I3.ok.frames, .inl rfl, ?_, I3.bs, ?_, ?_, ?_, I3.stack, I3.stkFree⟩, ?_, ?_, Un.kept old, ⟨_, hns, ?_⟩, ?_, ?_, ?_, ?_, I3.hok.kept old, ?_⟩
    · exact O.kind
    · show s3.heap.objs.size ≤ C; rw [hC3]; exact Nat.le_refl _
    · intro x y c h1 h2; exact I3.ok.inj x y c (sub x c h1) (sub y c h2)
    · intro x hx; exact O.cells hx
    · intro x c hf; exact Bool.noConfusion hf
    · intro b hb
      obtain ⟨f0, f1, f2, f3, f4, f5⟩ := f b hb
      obtain ⟨o, ho, _⟩ := T.obj _ _ st b hb
      have lt : b < C := by rw [← hC3, hC, ← hp0]; exact Nat.lt_succ_of_lt (Heap.lt_size ho)
      exact ⟨Nat.ne_of_lt lt, fun x c e => f4 x c (sub x c e)⟩
    · exact Nat.le_trans I3.ok.bsz I3.sz
    · intro b o e hb
      obtain ⟨f0, f1, f2, f3, f4, f5⟩ := f b hb
      rcases f3 with z | z
      · exact I3.ok.noex b o e z
      · exact absurd (Nat.lt_of_lt_of_le (Nat.lt_of_lt_of_le (Heap.lt_size e) I3.ok.bsz) z) (Nat.lt_irrefl _)
    · intro b hb z
      obtain ⟨f0, f1, f2, f3, f4, f5⟩ := f b hb
      rcases List.mem_cons.mp (I3.stkSub b z) with z | z
      · exact f1 z
      · exact f2 z
    · show s.os = s3.os; rw [← hs3]
    · exact I.bare
    · intro k x v e1 e2 e3
      obtain ⟨j, q1, q2⟩ := sig_at e2
      obtain ⟨a1, a2, a3, a4⟩ := O.fvs.at q1 e1
      obtain ⟨m, _, hl⟩ := I3.loc
      obtain ⟨u, r, lk⟩ := hl j x v a1 q2 (.inr (.inl a2))
      refine ⟨u, r, ?_⟩
      rcases lk with ⟨z, _⟩ | ⟨_, c, e, o, ho, hd⟩
      · have z' : X.env.scope.names.lookup x = some .local := z
        rw [a2] at z'; cases z'
      · exact .inr ⟨.inl a4, c, a3.trans e, o, old c o ho, hd⟩
    · intro x c e
      obtain ⟨v, o, ho, hd⟩ := I3.cell x c (sub x c e)
      exact ⟨v, o, old c o ho, hd⟩
    · show upd H p (.lst []) C = none
      exact I3.hok.fresh (by rw [hC3]; exact Nat.le_refl _)
    · intro x c e; exact I3.freeC x c (sub x c e)
    · intro q hq
      have hq' : q ∈ X.pn ++ pins := by
        have z : q ∈ (X.pn ++ pins) ++ [] := hq
        rwa [List.append_nil] at z
      obtain ⟨a1, a2, a3, a4, a5⟩ := I3.pin q hq'
      refine ⟨old _ _ a1, a2, ne3 _ _ a1, fun z => ?_, a5⟩
      rcases List.mem_cons.mp (I3.stkSub _ z) with z | z
      · exact a3 z
      · exact a4 z
    · show (sig fv σ).length = Nc.length
      unfold sig
      rw [List.length_map]
      exact O.len
  have fpc : ∀ {H' : Hp}, (∀ b ∈ fp, H' b = none) → ∀ b ∈ fp, FpOk (blk X scope cl Nc s3 (upd H p (.lst [])) C fp (X.pn ++ pins)) [] H' b := fun hn b hb => by
    obtain ⟨f0, f1, f2, f3, f4, f5⟩ := f b hb
    refine ⟨hn b hb, (I4.ok.exf b hb).1, I4.ok.exfs b hb, .inl hb, (I4.ok.exf b hb).2, fun q hq => ?_⟩
    have hq' : q ∈ X.pn ++ pins := by
      have z : q ∈ (X.pn ++ pins) ++ [] := hq
      rwa [List.append_nil] at z
    exact f5 q hq'
  have st4 : tn 0 h₁ := T.keep _ _ _ st fun b hb o e => old b o (by rw [hheap]; exact Heap.get?_push_of_some _ e)
  have fn4 : ∀ b ∈ fp, upd H p (.lst []) b = none := fun b hb => by
    obtain ⟨f0, _⟩ := f b hb
    obtain ⟨o, ho, _⟩ := T.obj _ _ st b hb
    rw [upd_ne (by rw [← hp0]; exact Nat.ne_of_lt (Heap.lt_size ho))]
    exact f0
  have loop : codeAny (model X.prog X.w) X.A (.compLoop (.ListComp elt [⟨tg, iter, ifs, 0⟩] scope pos) 0 (.ref it) (.ref p) (compEnvC scope cl C X.env)) (RR (.ref p) C) { s with heap := h₁, toks := s.toks + ([] : List (Str × Value)).length } := by
    refine comp_loop (fun n s' => ∃ i ys H', Inv (blk X scope cl Nc s3 (upd H p (.lst [])) C fp (X.pn ++ pins)) [] (sig fv σ) H' s' ∧ tn i s'.heap ∧ (∀ b ∈ fp, H' b = none) ∧ W i n ys H') ?_ m0 ⟨0, [], _, I4, st4, fn4, w0⟩
    rintro n s5 ⟨i, ys, H5, I5, st5, fn5, w5⟩
    obtain ⟨hl5, hh⟩ := hT i n ys H5 w5
    rcases hh with ⟨stop, q⟩ | ⟨go, step⟩
    · refine thn (T.done (blk X scope cl Nc s3 (upd H p (.lst [])) C fp (X.pn ++ pins)) rfl rfl rfl hc i [] s5 _ H5 _ I5 (fpc fn5) st5 stop) fun r s6 ⟨hr, I6⟩ => ?_
      subst hr
      obtain ⟨m6, hn6, _⟩ := I6.loc
      have I7 : Inv X pins σ H5 s6 := by
        refine I3.call' (ch := fp) I6.os I6.base I6.hok I6.bare fun b hb => ?_
        obtain ⟨f0, f1, f2, f3, f4, f5⟩ := f b hb
        exact ⟨f3, f1, f4, f5⟩
      refine hRR p C s6 H5 I7 q I6.free ⟨m6, hn6⟩ ?_ ?_ (fun x c e z => ?_) fun q hq z => ?_
      · rw [← hC3]; exact Nat.ne_of_gt I3.lt
      · rw [← hC3]; exact I3.sz
      · obtain ⟨v, o, ho, _⟩ := I3.cell x c e
        exact ne3 c o ho z
      · exact ne3 _ _ (I3.pin q hq).1 z
    · refine thn (T.item (blk X scope cl Nc s3 (upd H p (.lst [])) C fp (X.pn ++ pins)) rfl rfl rfl hc i [] s5 _ H5 (fun _ _ => False) I5 (fpc fn5) st5 go) fun r s6 ⟨u, hr, h6⟩ => ?_
      subst hr
      refine thn h6 fun _ s7 ⟨x, H7, I7, r7, y7, st7, fn7⟩ => ?_
      have I7' := I7.pinned (fpc fn7) (T.obj _ _ st7)
      refine thn (hg s3 (upd H p (.lst [])) C fp (X.pn ++ pins) _ s7 _ H7 x u _ I7' r7 (step x H7 y7)) fun _ s8 ⟨σ8, H8, I8, wk8, q8⟩ => ?_
      have again : ∀ {H9 : Hp} {s9 : Shared} {ys' : List V}, Inv (blk X scope cl Nc s3 (upd H p (.lst [])) C fp (X.pn ++ pins)) ([] ++ pinsAt fp s7.heap) σ8 H9 s9 → (∃ m', m' < n ∧ W (i + 1) m' ys' H9) →
          ∃ m, m < n ∧ ∃ i ys H', Inv (blk X scope cl Nc s3 (upd H p (.lst [])) C fp (X.pn ++ pins)) [] (sig fv σ) H' s9 ∧ tn i s9.heap ∧ (∀ b ∈ fp, H' b = none) ∧ W i m ys H' := fun {H9 s9 ys'} I9 ⟨m', hm, w9⟩ => by
        refine ⟨m', hm, i + 1, ys', H9, I9.unpinned.weak wk8.1.symm wk8.2, T.keep _ _ _ st7 fun b hb o e => (I9.pin (b, o) (List.mem_append_right _ (List.mem_append_right _ (mem_pinsAt hb e)))).1, fun b hb => ?_, w9⟩
        obtain ⟨o, e, d⟩ := T.obj _ _ st7 b hb
        exact (I9.pin (b, o) (List.mem_append_right _ (List.mem_append_right _ (mem_pinsAt hb e)))).2.1
      refine thn (ht s3 (upd H p (.lst [])) C fp (X.pn ++ pins) _ s8 σ8 H8 _ I8 q8) fun b s9 ⟨H9, I9, q9⟩ => ?_
      cases b with
      | false => exact again I9 q9
      | true =>
        refine thn (he s3 (upd H p (.lst [])) C fp (X.pn ++ pins) _ s9 σ8 H9 _ I9 q9) fun v s10 ⟨y, H10, I10, r10, hy, hz, q10⟩ => ?_
        refine thn (mt_append (X := blk X scope cl Nc s3 (upd H p (.lst [])) C fp (X.pn ++ pins)) _ s10 σ8 H10 (.ref p) [y] (.ref p) [v] (fun _ H' => ∃ m', m' < n ∧ W (i + 1) m' (ys ++ [y]) H') I10 rfl (.cons r10 .nil) ⟨p, ys, y, rfl, rfl, hy, hz, q10⟩) fun _ s11 ⟨_, H11, I11, _, q11⟩ => ?_
        exact again I11 q11
  exact codeAny_compStart_list loop (T.self _ _ _ _ _ st4 loop)

/-- [elt for tg in iter if ..] -/
def tComp (fv : List (Option Nat)) (wi : TI) (g : TG) (tt : TT) (te : TE) : TE := fun σ H Q => wi σ H fun J H1 => ∀ p, H1 p = none → ∃ W : Nat → Nat → List V → Hp → Prop, (∃ m, W 0 m [] (upd H1 p (.lst []))) ∧ cTurn J g tt te (sig fv σ) p W fun H' => Q (.ref p) H'
theorem pe_comp {wi : TI} (O : CompOk X scope cl Nc fv) (hc : X.calm = true) (hi : PI X tg iter wi) (hg : ∀ s₀ H₀ C ex pn, PG (blk X scope cl Nc s₀ H₀ C ex pn) tg g) (ht : ∀ s₀ H₀ C ex pn, PIf (blk X scope cl Nc s₀ H₀ C ex pn) ifs tt)
    (he : ∀ s₀ H₀ C ex pn, PE (blk X scope cl Nc s₀ H₀ C ex pn) elt te) (hs : ∀ x, foldedSetIterable iter X.env x = pure x := by intro _; rfl) :
    PE X (.ListComp elt [⟨tg, iter, ifs, 0⟩] scope pos) (tComp fv wi g tt te) := by
  intro pins s σ H Q I h
  rw [eval_ListComp]
  refine wpAny_comprehension_free (use := none) rfl hs O.clos O.kind O.names (wpAny_mono (hi pins s σ H _ I h) (fun v s1 h1 => thn h1 fun itv s2 h2 => ?_) fun _ _ z => z)
  obtain ⟨it, fp, tn, J, H2, e, I2, T, st2, f2, q2⟩ := h2
  subst e
  refine comp_run (RR := fun acc C => compPost (model X.prog X.w) X.A X.xe none (EP X pins σ Q) acc C) O hc hg ht he I2 T st2 f2 q2 ?_
  intro p C s' H' I' q' c1 c2 c3 c4 c5 c6
  obtain ⟨m, hn⟩ := c2
  exact ⟨m, hn, fun h'' hs'' => ⟨.ref p, H', I'.turned (t' := s'.toks) (fun b o hb e => (hs''.2 b hb).trans e) c1 c3 (.inr c4) c5 c6, rfl, q'⟩⟩
/-- name = [elt for tg in iter if ..] -/
theorem ps_comp {wi : TI} {i : Nat} {y : Str} {py spos : Pos} (O : CompOk X scope cl Nc fv) (hN : X.N.Nodup) (hy : X.N[i]? = some y) (hx : Loc X.env.scope y) (hc : X.calm = true) (hi : PI X tg iter wi) (hg : ∀ s₀ H₀ C ex pn, PG (blk X scope cl Nc s₀ H₀ C ex pn) tg g)
    (ht : ∀ s₀ H₀ C ex pn, PIf (blk X scope cl Nc s₀ H₀ C ex pn) ifs tt) (he : ∀ s₀ H₀ C ex pn, PE (blk X scope cl Nc s₀ H₀ C ex pn) elt te)
    (hsw : swapsWith (.ListComp elt [⟨tg, iter, ifs, 0⟩] scope pos) (some (.Name y py)) spos.line X.env = pure true := by rfl) (hs : ∀ x, foldedSetIterable iter X.env x = pure x := by intro _; rfl)
    (hf : X.fn y = true ∨ X.env.scope.names.lookup y = some .local := by first | exact .inl rfl | exact .inr rfl | assumption) :
    PS X (.Assign [.Name y py] (.ListComp elt [⟨tg, iter, ifs, 0⟩] scope pos) spos) (tAsg (tComp fv wi g tt te) (gName i)) := by
  intro pins s σ H D I h
  rw [exec_Assign_Name_used _ _ _ _ hsw]
  refine wpAny_bind (wpAny_standAt (wpAny_bind ?_))
  show wpAny _ X.A (do let _ ← comprehension (.ListComp elt [⟨tg, iter, ifs, 0⟩] scope pos) scope X.env _ (newList []) false (eval iter X.env) (some (assign (.Name y py) X.env))) _ _ s
  refine wpAny_bind (wpAny_mono (wpAny_comprehension_free (use := some (assign (.Name y py) X.env)) (Q := fun _ s' => SP X pins D .next s') rfl hs O.clos O.kind O.names
    (wpAny_mono (hi pins s σ H _ I h) (fun v s1 h1 => thn h1 fun itv s2 h2 => ?_) fun _ _ z => z)) (fun _ s' hq => wpAny_pure (wpAny_pure hq)) fun _ _ e => e)
  obtain ⟨it, fp, tn, J, H2, e, I2, T, st2, f2, q2⟩ := h2
  subst e
  refine comp_run (RR := fun acc C => compPost (model X.prog X.w) X.A X.xe (some (assign (.Name y py) X.env)) (fun _ s' => SP X pins D .next s') acc C) O hc hg ht he I2 T st2 f2 q2 ?_
  intro p C s' H' I' q' c1 c2 c3 c4 c5 c6
  obtain ⟨m, hn⟩ := c2
  show wpAny _ X.A (assign (.Name y py) X.env (.ref p)) _ _ _
  refine wpAny_assign_Name (store_ok2 I' hN hy hx (v := .ref p) (u := .ref p) rfl (fun s'' I'' hb => ?_) hf)
  obtain ⟨a, sb, ha⟩ := hb
  have hCa : C ≠ a := by
    rcases ha with z | z
    · rw [z]; exact c3
    · exact fun w => c5 y a z w.symm
  refine ⟨m, hn.sameBut sb hCa, fun h3 sb3 => ?_⟩
  exact ⟨_, H', I''.turned (t' := s''.toks) (fun b o hb e => (sb3.2 b hb).trans e) c1 c3 (.inr c4) c5 c6, q'⟩
end
end L2

set_option Elab.async false
set_option linter.all false
set_option maxRecDepth 100000
/-! L3: sums, enumerate, == of built data, isinstance, refusals raised and caught -/
namespace L2
open PySem PySem.Spec PyProof.Rows

section
variable {P : Program} {w : World} {H : Hp} {h h' : Heap} {a : Addr} {o : HO}
/-- what is tracked stays, and one more thing is tracked -/
theorem HOk.more (x : HOk P w H h) (k : ∀ b u, H b ≠ none → h.get? b = some u → h'.get? b = some u) (hn : H a = none) (new : ObjOk P w (upd H a o) h' a o) : HOk P w (upd H a o) h' := fun b u e => by
  by_cases q : b = a
  · subst q
    rw [upd_same] at e
    cases e
    exact new
  · rw [upd_ne q] at e
    have ne : ∀ c z, H c = some z → c ≠ a := fun c z e' w' => by rw [w', hn] at e'; cases e'
    refine (x b u e).stay (fun c v hc z => k c v ?_ z) (fun c z => by rw [upd_ne (ne c _ z)]; exact z) fun c xs z => by rw [upd_ne (ne c _ z)]; exact z
    rcases hc with z | z
    · rw [z, e]; intro y; cases y
    · rw [z]; intro y; cases y
theorem Un.track {fs ex : List Addr} {H₀ : Hp} {h₀ : Heap} (u : Un fs ex H₀ H h₀ h) (hn : H a = none) (h0 : h₀.get? a = none) : Un fs ex H₀ (upd H a o) h₀ h := by
  have ne : ∀ c z, H c = some z → c ≠ a := fun c z e' w' => by rw [w', hn] at e'; cases e'
  refine ⟨u.keep, u.slot, fun b ob e n hx => ?_, u.there, fun b xs e => ?_, fun b ob z e => ?_, fun b ps e => ?_⟩
  · rw [upd_ne (fun z => by rw [z, h0] at e; cases e)]; exact u.free b ob e n hx
  · have q := u.tups b xs e
    rw [upd_ne (ne b _ q)]; exact q
  · have q := u.frzs b ob z e
    rw [upd_ne (ne b _ q)]; exact q
  · obtain ⟨m, q⟩ := u.tbls b ps e
    exact ⟨m, by rw [upd_ne (ne b _ q)]; exact q⟩
end

section
variable {X : Cx}
/-! ### sum -/
theorem call_sum (hc : X.calm = true) : CallR X (.builtin "sum") (fun xs H Q => ∃ (p : Addr) (ns : List Int), xs = [.ref p] ∧ SqL X.K H p (ns.map V.int) ∧ Q (.int ns.sum) H) := by
  intro pins s σ H xs us Q I r h
  obtain ⟨p, ns, rfl, hl, q⟩ := h
  obtain ⟨u, rfl, rx⟩ := vals1 r
  cases rx
  obtain ⟨its, rv, pl, hz⟩ := I.list hl
  have hi := intsAre_of rv
  obtain ⟨xs, e⟩ := hi.allInts.items
  have hn := hi.numsOf
  have hl' := pl.isList
  rw [e] at hl'
  refine sum_intListG (I.ok.hd hc) hl' fun h' tk t' hk => ⟨.int ns.sum, H, I.kept hk, ⟨t', ?_⟩, q⟩
  have e2 : numsOf (intItems xs).toList = ns := by rw [← e]; exact hn
  rw [nums_intItems] at e2
  rw [preSum_eq, List.take_of_length_le (by simp), e2]

/-! ### enumerate -/
def Ite (K : PySem.W.Frag) (a : Addr) : It :=
  ⟨fun i H => ∃ xs x, SqL K H a xs ∧ xs[i]? = some x, fun i H x H' => ∃ t y, H t = none ∧ H' = upd H t (.tup [.int i, y]) ∧ x = .ref t ∧ ∀ xs, SqL K H a xs → xs[i]? = some y, fun i H => ∃ xs, SqL K H a xs ∧ xs.length ≤ i⟩
theorem turn_enum {P : Program} {w : World} {K : PySem.W.Frag} {es : List Expr} {k : Nat} {tp : Pos} (a e it : Addr) (hei : e ≠ it) : Turn P w K (.Tuple es k tp) (Ite K a) [e, it] e (fun i h => (∃ old, IsEnum h e it i old) ∧ h.IsListIter it a i) where
  mem := by simp
  obj := fun i h st b hb => by
    obtain ⟨⟨old, h1⟩, o, h2, c, d⟩ := st
    rcases List.mem_cons.mp hb with z | z
    · subst z; exact ⟨_, h1, fun v q => by have q' : Data.fields _ = Data.cell v := q; cases q'⟩
    · rw [List.mem_singleton.mp z]; exact ⟨o, h2, fun v q => by rw [d] at q; cases q⟩
  keep := fun i h h' st k => by
    obtain ⟨⟨old, h1⟩, h2⟩ := st
    exact ⟨⟨old, k e (by simp) _ h1⟩, h2.at fun o z => k it (by simp) o z⟩
  item := by
    intro X hP hw hK hc i pins s σ H E I hf st hg
    subst hP hw hK
    obtain ⟨xs, x, hq, hx⟩ := hg
    obtain ⟨its, rv, p, hz⟩ := I.list hq
    obtain ⟨u, hu, ru⟩ := rv.get hx
    obtain ⟨⟨old, h1⟩, h2⟩ := st
    refine wpAny_pyNext_enum_item h1 h2 p.isList (x := u) (by simpa using hu) hei fun h' g1 g2 g3 g4 g5 => ?_
    refine ⟨_, rfl, ?_⟩
    have hn : H s.heap.objs.size = none := I.hok.fresh (Nat.le_refl _)
    show wpAny _ X.A (do
      let o ← load e
      match o.cls, o.data with
      | .type n, .fields vs =>
        if ["enumerate", "zip", "dict_itemiterator", "dict_reverseitemiterator", "odict_iterator", "itertools.zip_longest", "itertools.pairwise"].contains n && vs[0]? == some (rawInt s.heap.objs.size) then
          rule "for.unpacks-the-owned-tuple"
          updateField e 0 .none
      | _, _ => pure ()) _ _ _
    refine wpAny_bind (wpAny_load g1 ?_)
    dsimp only
    rw [if_pos (by simp)]
    refine wpAny_bind (wpAny_rule ?_)
    show wpAny _ _ (setField (.ref e) 0 .none) _ _ _
    refine wpAny_setField g1 rfl (by simp) ?_
    have ge : ∀ b, b ≠ e → (h'.update e (Obj.mapFields (·.setIfInBounds 0 Value.none))).get? b = h'.get? b := fun b q => Heap.get?_update_other _ _ (Ne.symm q)
    have gs := Heap.get?_update_self (Obj.mapFields (·.setIfInBounds 0 Value.none)) g1 rfl
    have te : s.heap.objs.size ≠ e := Nat.ne_of_gt (Heap.lt_size h1)
    have keep : ∀ b o, b ∉ [e, it] → s.heap.get? b = some o → (h'.update e (Obj.mapFields (·.setIfInBounds 0 Value.none))).get? b = some o := fun b o q z => by
      rw [ge b (by intro y; exact q (by simp [y]))]
      exact g5 b o (by intro y; exact q (by simp [y])) (by intro y; exact q (by simp [y])) z
    have nfp : ∀ b, H b ≠ none → b ∉ [e, it] := fun b q z => q (hf b z).1
    have new : ObjOk X.prog X.w (upd H s.heap.objs.size (.tup [.int i, x])) (h'.update e (Obj.mapFields (·.setIfInBounds 0 Value.none))) s.heap.objs.size (.tup [.int i, x]) := by
      refine ⟨by simp only [List.length_cons, List.length_nil]; rw [sizeLine_eq]; decide, [.int i s.toks, u], .cons ⟨_, rfl⟩ (.cons ru .nil), ⟨_, (ge _ te).trans g3, rfl, 0, rfl⟩⟩
    have I1 : Inv X pins σ (upd H s.heap.objs.size (.tup [.int i, x])) { s with heap := h'.update e (Obj.mapFields (·.setIfInBounds 0 Value.none)), toks := s.toks + 1 } := by
      refine I.call (ch := [e, it]) (g' := s.gens) (d' := s.drawn) ?_ (I.hok.more (fun b v q z => keep b v (nfp b q) z) hn new) I.bare fun b hb => ?_
      · refine Un.track (H := H) ⟨fun b o z n _ hx => keep b o hx z, fun b o z n _ hx => ⟨o.slots, keep b o hx z⟩, fun _ _ _ n _ => n, fun b o z hx => ⟨o, keep b o hx z⟩, fun _ _ z => z, fun _ _ _ z => z, fun b ps z => ⟨#[], by rw [z]; simp⟩⟩ hn (Heap.get?_none_of_le (Nat.le_refl _))
      · obtain ⟨f0, f1, f2, f3, f4, f5⟩ := hf b hb
        exact ⟨f3, f1, f4, f5⟩
    refine ⟨.ref s.heap.objs.size, _, I1, rfl, ⟨s.heap.objs.size, x, hn, rfl, rfl, fun ys hy => by rw [I.list_inj hy hq]; exact hx⟩, ⟨⟨u, ?_⟩, ?_⟩, fun b hb => ?_⟩
    · show (h'.update e (Obj.mapFields (·.setIfInBounds 0 Value.none))).get? e = _
      rw [gs]
      rfl
    · exact g2.at fun o z => (ge it (Ne.symm hei)).trans z
    · have lt : b < s.heap.objs.size := by
        rcases List.mem_cons.mp hb with z | z
        · rw [z]; exact Heap.lt_size h1
        · rw [List.mem_singleton.mp z]; obtain ⟨o, q, _⟩ := h2; exact Heap.lt_size q
      rw [upd_ne (Nat.ne_of_lt lt)]
      exact (hf b hb).1
  done := by
    intro X hP hw hK hc i pins s σ H E I hf st hg
    subst hP hw hK
    obtain ⟨xs, hq, hx⟩ := hg
    obtain ⟨its, rv, p, hz⟩ := I.list hq
    obtain ⟨⟨old, h1⟩, h2⟩ := st
    obtain ⟨f0, f1, f2, f3, f4, f5⟩ := hf it (by simp)
    have hl := rv.length
    exact wpAny_pyNext_enum_end (I.ok.hd hc) h1 h2 p.isList (by simp; omega) fun h' eb => ⟨rfl, I.turned (t' := s.toks) (fun b o hb z => eb b o hb z) f0 f1 f3 f4 f5⟩
  self := fun _ _ _ _ _ st h => by
    obtain ⟨⟨old, h1⟩, h2⟩ := st
    exact wpAny_pyIter_enum h1 h
def iEnum (K : PySem.W.Frag) (ta : TA) : TI := fun σ H R => ta σ H fun vs H1 => ∃ a, vs = [.ref a] ∧ (∃ xs, SqL K H1 a xs) ∧ R (Ite K a) H1
theorem pi_enum {a : Expr} {ta : TA} {p pos : Pos} {es : List Expr} {k : Nat} {tp : Pos} (hg : Gl X "enumerate") (hm : X.mg "enumerate" = none) (ha : PA X [a] ta) (hs : starEach [a] X.env = [(false, eval a X.env)] := by rfl) :
    PI X (.Tuple es k tp) (.Call (.Name "enumerate" p) [a] [] pos) (iEnum X.K ta) := by
  intro pins s σ H R I h
  refine Call_ (ld_blt I hg hm PyProof.Rows.Boot.«enumerate» (PyProof.Rows.callWith_type1 (thn (ha pos pins s σ H _ I h) fun us s1 ⟨vs, H1, I1, r1, q1⟩ => ?_) hs rfl))
  obtain ⟨l, e, ⟨xs, hx⟩, q⟩ := q1
  subst e
  obtain ⟨u, rfl, rx⟩ := vals1 r1
  cases rx
  obtain ⟨its, rv, pl, hz⟩ := I1.list hx
  refine call_enumerate_list pl.isList fun h' g1 g2 g3 g4 => ?_
  have I2 : Inv X pins σ H1 { s1 with heap := h' } := I1.kept (t' := s1.toks) g4
  refine wpAny_pyIter_enum g1 ?_
  refine ⟨s1.heap.objs.size + 1, [s1.heap.objs.size + 1, s1.heap.objs.size], _, _, H1, rfl, I2, turn_enum l _ _ (Nat.succ_ne_self _), ⟨⟨.none, g1⟩, g2⟩, fun b hb => ?_, q⟩
  rcases List.mem_cons.mp hb with z | z
  · subst z; exact I1.fpOk (Nat.le_succ _) (I1.hok.fresh (Nat.le_succ _))
  · rw [List.mem_singleton.mp z]; exact I1.fpOk (Nat.le_refl _) (I1.hok.fresh (Nat.le_refl _))
/-- over enumerate of a list that the body leaves as it is -/
theorem for_enum {K : PySem.W.Frag} {a : Addr} {xs : List V} {g : TG} {tb : TS} {D : Ends} {σ : St} {H : Hp} (Pv : Nat → St → Hp → Prop) (h0 : Pv 0 σ H) (hl : ∀ i σ H, i ≤ xs.length → Pv i σ H → SqL K H a xs)
    (hs : ∀ i x σ H t, xs[i]? = some x → Pv i σ H → H t = none → g (.ref t) σ (upd H t (.tup [.int i, x])) fun σ2 H2 => tb { D with nx := Pv (i + 1), ct := Pv (i + 1), bk := D.nx } σ2 H2) (hd : ∀ σ H, Pv xs.length σ H → D.nx σ H) :
    ∃ W : Nat → Nat → St → Hp → Prop, (∃ m, W 0 m σ H) ∧ ∀ i m σ H, W i m σ H →
      ((Ite K a).stop i H ∧ D.nx σ H) ∨ ((Ite K a).go i H ∧ ∃ N : St → Hp → Prop, (∀ σ' H', N σ' H' → ∃ m', m' < m ∧ W (i + 1) m' σ' H') ∧ ∀ x H', (Ite K a).yld i H x H' → g x σ H' fun σ2 H2 => tb { D with nx := N, ct := N, bk := D.nx } σ2 H2) := by
  refine ⟨fun i m σ H => m = xs.length - i ∧ i ≤ xs.length ∧ Pv i σ H, ⟨xs.length, by simp, Nat.zero_le _, h0⟩, ?_⟩
  rintro i m σ H ⟨rfl, hi, p⟩
  have q := hl i σ H hi p
  by_cases hlt : i < xs.length
  · refine .inr ⟨⟨xs, xs[i], q, by simp [hlt]⟩, Pv (i + 1), fun σ' H' p' => ⟨xs.length - (i + 1), by omega, rfl, hlt, p'⟩, fun x H' y => ?_⟩
    obtain ⟨t, v, ht, rfl, rfl, hv⟩ := y
    exact hs i v σ H t (hv xs q) p ht
  · have e : i = xs.length := by omega
    subst e
    exact .inl ⟨⟨xs, q, Nat.le_refl _⟩, hd σ H p⟩
end

end L2

set_option Elab.async false
set_option linter.all false
set_option maxRecDepth 100000
/-! L3: == of built data; a refusal raised; a refusal caught -/
namespace L2
open PySem PySem.Spec PyProof.Rows

mutual
/-- the value is that plain data -/
def DatR (K : PySem.W.Frag) (H : Hp) : PyData → V → Prop
  | .none, v => v = .non
  | .bool b, v => v = .bl b
  | .int i, v => v = .int i
  | .str x, v => v = .str x
  | .tuple ds, v => ∃ a xs, v = .ref a ∧ SqT K H a xs ∧ DatA K H ds xs
  | .list ds, v => ∃ a xs, v = .ref a ∧ SqL K H a xs ∧ DatA K H ds xs
  | .dict _, _ => False
def DatA (K : PySem.W.Frag) (H : Hp) : List PyData → List V → Prop
  | [], xs => xs = []
  | d :: ds, xs => ∃ x r, xs = x :: r ∧ DatR K H d x ∧ DatA K H ds r
end
section
variable {X : Cx} {pins : List (Addr × Obj)} {σ : St} {H : Hp} {s : Shared}
mutual
theorem reads_of (I : Inv X pins σ H s) : ∀ (d : PyData) {v : V} {u : Value}, DatR X.K H d v → RelV v u → ∃ as, Reads s.heap u d as
  | .none, v, u, h, r => by cases (show v = .non from h); cases (show u = Value.none from r); exact ⟨_, .none⟩
  | .bool b, v, u, h, r => by cases (show v = .bl b from h); cases (show u = Value.bool b from r); exact ⟨_, .bool b⟩
  | .int i, v, u, h, r => by cases (show v = .int i from h); obtain ⟨t, rfl⟩ := (show ∃ t, u = Value.int i t from r); exact ⟨_, .int i t⟩
  | .str x, v, u, h, r => by cases (show v = .str x from h); obtain ⟨t, rfl⟩ := (show ∃ t, u = Value.str x t from r); exact ⟨_, .str x t⟩
  | .tuple ds, v, u, h, r => by
    obtain ⟨a, xs, rfl, hq, hd⟩ := (show ∃ a xs, v = .ref a ∧ SqT X.K H a xs ∧ DatA X.K H ds xs from h)
    cases (show u = Value.ref a from r)
    obtain ⟨its, rv, ⟨o, e, c, n, d⟩, hz⟩ := I.tuple hq
    obtain ⟨as, ra⟩ := readsAll_of I ds hd rv
    exact ⟨_, .tuple e c d ra⟩
  | .list ds, v, u, h, r => by
    obtain ⟨a, xs, rfl, hq, hd⟩ := (show ∃ a xs, v = .ref a ∧ SqL X.K H a xs ∧ DatA X.K H ds xs from h)
    cases (show u = Value.ref a from r)
    obtain ⟨its, rv, pl, hz⟩ := I.list hq
    obtain ⟨o, e, c, n, d⟩ := pl.isList
    obtain ⟨as, ra⟩ := readsAll_of I ds hd rv
    exact ⟨_, .list e c d ra⟩
  | .dict kvs, v, u, h, r => (show False from h).elim
theorem readsAll_of (I : Inv X pins σ H s) : ∀ (ds : List PyData) {xs : List V} {us : List Value}, DatA X.K H ds xs → Vals xs us → ∃ as, ReadsAll s.heap us ds as
  | [], xs, us, h, r => by
    cases (show xs = [] from h)
    cases r
    exact ⟨_, .nil⟩
  | d :: ds, xs, us, h, r => by
    obtain ⟨x, rest, rfl, h1, h2⟩ := (show ∃ x r, xs = x :: r ∧ DatR X.K H d x ∧ DatA X.K H ds r from h)
    cases r with
    | cons r1 r2 =>
      obtain ⟨as, ra⟩ := reads_of I d h1 r1
      obtain ⟨bs, rb⟩ := readsAll_of I ds h2 r2
      exact ⟨_, .cons ra rb⟩
end
def rEqD (K : PySem.W.Frag) (neg : Bool) : R2 := fun x y H Q => ∃ dx dy, DatR K H dx x ∧ DatR K H dy y ∧ dx.canLay0 = true ∧ dy.canLay0 = true ∧ dx.depth ≤ 8 ∧ Q (.bl (if neg then !PyData.eqv dx dy else PyData.eqv dx dy)) H
theorem op_eqD (hu : X.A.units + 64 < cLine) : OpR X (compareOp .Eq) (rEqD X.K false) := by
  intro pins s σ H x y v u Q I rx ry h
  obtain ⟨dx, dy, h1, h2, c1, c2, d1, q⟩ := h
  obtain ⟨as, ra⟩ := reads_of I dx h1 rx
  obtain ⟨bs, rb⟩ := reads_of I dy h2 ry
  exact SeqAt.compareEq_reads ra rb c1 c2 (by have := Nat.min_le_left dx.depth dy.depth; omega) ⟨.bl _, H, I, rfl, q⟩
end

/-! ### a refusal raised -/
theorem exc_obj {K : PySem.W.Frag} {h : Heap} {C : Addr} {bmB : List Value} {newId : String} (X : K.In h) (q : PySem.W.excIn K C bmB newId = true) :
    ∃ bm N nm qn bs hd sn sub ab col dd k0 k1 k2 k3 k5, h.get? C = some (excClassObj nm qn C N bs bm hd sn sub ab col dd k0 k1 k2 k3 k5 newId) ∧ h.Ns N (h.nsMap N) ∧ h.nsMap N "__init__" = none ∧ OwnTail h bmB bm := by
  unfold PySem.W.excIn at q
  split at q
  · rename_i dd cd sl ho
    split at q
    · rename_i C' bm k0 k1 k2 k3 n k5 hm hs
      simp only [Bool.and_eq_true, beq_iff_eq, Bool.not_eq_true'] at q
      obtain ⟨⟨⟨⟨⟨rfl, rfl⟩, hdel⟩, ht⟩, hok⟩, hni⟩ := q
      obtain ⟨nm, bs, mro, ns, qn, hd, sn, sub, ab, col, del⟩ := cd
      dsimp only at hm hdel hok hni
      subst hm hdel
      obtain ⟨l⟩ := sl
      have hs' : l = _ := hs
      subst hs'
      exact ⟨bm, ns, nm, qn, bs, hd, sn, sub, ab, col, dd, k0, k1, k2, k3, k5, X _ _ ho, .of_isNs (PySem.W.isNs_of_in X hok), PySem.W.nsMap_none_of_in X hok hni, PySem.W.tail_of_in X ht⟩
    · cases q
  · cases q
section
variable {X : Cx} {E : XK} {C : Addr} {bmB : List Value} {B newId initId : String} {x : Str} {np cpos pos : Pos} {e : Expr} {es : List Expr} {t : TA}
def tRaise (E : XK) (C : Addr) (t : TA) : TS := fun _ σ H => t σ H fun vs H1 => vs.length ≤ sizeLine ∧ E (.ref C) none H1
/-- raise C(..), C an own class of a built-in refusal, without an __init__ of its own -/
theorem ps_raise (R : Raises X E) (hc : X.calm = true) (FB : ExcBaseFacts B newId initId bmB) (q : PySem.W.excIn X.K C bmB newId = true) (hg : Gl X x) (hm : X.mg x = some (.ref C)) (ha : PA X (e :: es) t) (hex : X.ex = [] := by rfl)
    (hdb : (x == ("__debug__" : Str)) = false := by decide) (he : starEach (e :: es) X.env = (false, eval e X.env) :: starEach es X.env := by rfl) (hpl : (backTo cpos (starEach es X.env)).any (·.1) = false := by rfl) :
    PS X (.Raise (some (.Call (.Name x np) (e :: es) [] cpos)) none pos) (tRaise E C t) := by
  intro pins s σ H D I h
  obtain ⟨bm, N, nm, qn, bs, hd, sn, sub, ab, col, dd, k0, k1, k2, k3, k5, hC, hN, hni, T⟩ := exc_obj I.ok.mod.kin q
  refine wpAny_Raise_call_subT (C := C) (nm := nm) (q := qn) (N := N) (bs := bs) (bm := bm) (hdct := hd) (sn := sn) (sub := sub) (ab := ab) (col := col) (dd := dd) (k0 := k0) (k1 := k1) (k2 := k2) (k3 := k3) (k5 := k5)
    FB (mN := X.base.nsMap N) (T.hasType FB.hasBase) (I.ok.hd hc) (by rw [he]; show (false || (backTo cpos (starEach es X.env)).any (·.1)) = false; rw [hpl]; rfl) hni (ld_glob I hg hm ⟨rfl, ?_⟩ hdb)
  have z := ha cpos pins s σ H _ I h
  rw [he] at z ⊢
  refine Calls.evalArgs_plain (wpAny_mono z (fun us s2 ⟨vs, H1, I1, r, hl, qE⟩ => ⟨rfl, by rw [← r.length]; exact hl, I1.bk _ _ hC, hN.keeps I1.bk, T.keeps I1.bk, fun h' e' M => ?_⟩) fun _ _ y => y)
  have I2 : Inv X pins σ H1 { s2 with heap := h' } := I1.kept (t' := s2.toks) M.keeps
  obtain ⟨t0, h1, _, _⟩ := M.there
  refine R pins σ H1 _ e' (.ref C) none I2 ⟨_, _, h1, rfl, rfl, rfl, .inl ⟨rfl, rfl⟩⟩ ?_ (I1.hok.none_of M.new) qE
  cases y : X.s₀.heap.get? e' with
  | none => rfl
  | some o =>
    obtain ⟨o', e1⟩ := I1.base.there e' o y (by rw [hex]; exact fun z => nomatch z)
    rw [M.new] at e1; cases e1
end

/-! ### a refusal caught -/
/-- an exception that was caught: a thing with its class and its dict -/
def ExcO (e : Addr) (cls : Value) (od : Option Addr) : HO := .ext fun h => ∃ oe vs, h.get? e = some oe ∧ oe.cls = cls ∧ oe.dict = od ∧ oe.data = .fields vs
section
variable {X : Cx} {pins : List (Addr × Obj)} {σ : St} {H : Hp} {s : Shared}
end

end L2

set_option Elab.async false
set_option linter.all false
set_option maxRecDepth 100000
/-! L3: try, except -/
namespace L2
open PySem PySem.Spec PyProof.Rows

section
variable {X : Cx} {k : Nat} {f : Addr} {fd : FuncData} {ps : List Str} {sp : Sp} {dvs : List V} {ds : List Value} {x : Str} {p pos : Pos} {e : Expr} {es : List Expr} {t : TA}


variable {ce : Expr} {tc : XK → TE} {B n : Str} {aB : Addr} {iE : Nat} {np hpos epos tpos : Pos} {b0 : Stmt} {suite : List Stmt} {ts : TS} {D : Ends} {pins : List (Addr × Obj)} {σ : St}

end
end L2

set_option Elab.async false
set_option linter.all false
set_option maxRecDepth 100000
/-! L3: the attributes of an own refusal -/
namespace L2
open PySem PySem.Spec PySem.W PyProof.Rows

/-- what of the text a class of refusals must have -/
structure ExcC (K : PySem.W.Frag) (C : Addr) : Prop where
  ga : findIn K (.ref C) "__getattribute__" = some (some (.builtin "BaseException.__getattribute__"))
  gh : findIn K (.ref C) "__getattr__" = some none
  be : mroIn K C (.type "BaseException") = some true
  ob : mroIn K C (.type "object") = some true
  cl : findIn K (.ref C) "__class__" = some (some (.builtin "object.__class__"))
  hn : specialIn K (.builtin "object.__class__") "__get__" = some (some (.builtin "getset_descriptor.__get__"))
  tk : takesIn K (.builtin "object.__class__") = some true
  cls : (clsIn K C).isSome = true

section
variable {prog : Program} {w : World} {A : Around} {E : Value → Shared → Prop} {s : Shared} {K : PySem.W.Frag} {x C : Addr} {ox : Obj} {od : Option Obj} {name : Str} {tk : Tok}
theorem exc_check {M : Model} {Q : Unit → Shared → Prop} {nameV : Value} (X : K.In s.heap) (I : PySem.W.InstAt s.heap x ox C od) (c : ExcC K C) (hq : Q () s) : wpAny M A (checkBuiltinCall "BaseException.__getattribute__" ⟨[.ref x, nameV], []⟩) Q E s := by
  have hk : builtinKind "BaseException.__getattribute__" = some .slot := by decide +kernel
  have hsplit : splitId "BaseException.__getattribute__" = some ("BaseException", "__getattribute__") := by decide +kernel
  have ha := F.args_bexc_ga (.ref x) nameV
  obtain ⟨hp, g, d, t, os⟩ := s
  have L0 := I.type (M := M)
  have L1 := looks_mroIn (M := M) X c.be
  have LI : Looks M hp (isInstance (.ref x) (.type "BaseException")) true := L0.andThen L1
  simp only [checkBuiltinCall, hk, hsplit]
  refine wpAny_bind (LI.at ?_)
  repeat (any_goals (first | assumption | wp_step))
theorem exc_by {fill expr : Bool} {Q : Value → Shared → Prop} (X : K.In s.heap) (I : PySem.W.InstAt s.heap x ox C od) (c : ExcC K C)
    (h : ∀ A' : Around, wpAny (model prog w) A' (Builtin.«object.__getattribute__» ⟨[.ref x, .str name tk], []⟩) (fun fin s' => ∃ v, fin = .done (.ret v) ∧ handedIn v = true ∧ Q v s') (fun _ _ => False) s) :
    wpAny (model prog w) A (getAttrBy (.ref x) (.str name tk) fill expr) Q E s := by
  obtain ⟨hp, g, d, t, os⟩ := s
  have L0 := I.type (M := model prog w)
  have L1 := looks_findIn (M := model prog w) X c.ga
  have L2 := looks_findIn (M := model prog w) X c.gh
  have f3 := F.excAttr_ValueError.ga.bind (.ref x)
  unfold getAttrBy
  refine wpAny_holding (wpAny_bind (L0.at (wpAny_bind (L1.at ?_))))
  have e1 : (onTheHeap (Value.ref C) && Value.builtin "BaseException.__getattribute__" == Value.builtin "object.__getattribute__") = false := by
    have e0 : (Value.builtin "BaseException.__getattribute__" == Value.builtin "object.__getattribute__") = false := by decide +kernel
    rw [e0, Bool.and_false]
  simp only [e1, Bool.false_eq_true, if_false]
  unfold getAttrByItsOwn hookBefore
  have e2 : onTheHeap (Value.ref C) = true := rfl
  simp only [e2, if_true]
  refine wpAny_bind (L2.at (wpAny_bind (wpAny_attempt (wpAny_holding ?_))))
  have e3 : (expr && onTheHeap (Value.builtin "BaseException.__getattribute__")) = false := by cases expr <;> rfl
  unfold callGetattribute
  simp only [e3, Bool.false_eq_true, if_false]
  unfold boundAndCalled
  rw [f3]
  refine wpAny_bind (wpAny_pure ?_)
  dsimp only
  refine wpAny_call (codeAny_call_builtin F.excAttr_ValueError.ga.plain F.entry_bexc_ga (exc_check X I c (wpAny_mono (h _) (fun fin s' z => ?_) fun _ _ z => z.elim)))
  obtain ⟨v, rfl, hv, q⟩ := z
  show wpAny _ _ (handedOut v) _ _ _
  rw [handedOut_of hv]
  exact wpAny_pure q
/-- its class, by its attribute -/
theorem exc_class {Q : Option Value → Shared → Prop} (X : K.In s.heap) (I : PySem.W.InstAt s.heap x ox C od) (c : ExcC K C) (h : Q (some (.ref C)) { s with toks := s.toks + 1 }) : wpAny (model prog w) A (getAttr? (.ref x) "__class__") Q E s := by
  have hf : findObj K C od "__class__" = some (.bind (.builtin "getset_descriptor.__get__") (.builtin "object.__class__")) := by
    obtain ⟨cd, hc⟩ := Option.isSome_iff_exists.mp c.cls
    unfold findObj
    rw [hc, Option.bind_some, c.cl, Option.bind_some]
    dsimp only
    rw [c.hn, Option.bind_some]
    dsimp only
    rw [c.tk, Option.bind_some]
  unfold getAttr? getAttrBy?
  refine wpAny_bind (wpAny_mkText (wpAny_bind (wpAny_attempt (exc_by (s := { s with toks := s.toks + 1 }) X I c (Q := fun v s' => wpAny (model prog w) A (pure (some v)) Q E s') (fun A' => ?_)))))
  obtain ⟨hp, g, d, t, os⟩ := s
  have L0 := I.type (M := model prog w)
  have L1 := looks_find (M := model prog w) X I hf
  unfold Builtin.«object.__getattribute__»
  refine wpAny_bind (wpAny_pure ?_)
  dsimp only
  refine wpAny_bind (wpAny_pure (wpAny_bind (L0.at (wpAny_bind (L1.at ?_)))))
  show wpAny _ _ (holding [Value.builtin "object.__class__"] (call (.builtin "getset_descriptor.__get__") [.builtin "object.__class__", .ref x, .ref C]) >>= ret) _ _ _
  refine wpAny_bind (wpAny_holding (wpAny_call ?_))
  refine class_get (s := ⟨hp, g, d, t + 1, os⟩) (ox := ox) (od := od) X I c.ob ?_
  exact wpAny_pure ⟨_, rfl, rfl, wpAny_pure h⟩
end
end L2

set_option Elab.async false
set_option linter.all false
set_option maxRecDepth 100000
/-! L3: isinstance -/
namespace L2
open PySem PySem.Spec PyProof.Rows

theorem kitx_exc {K : PySem.W.Frag} {x C : Addr} {ox : Obj} {od : Option Obj} (c : ExcC K C) : PySem.W.KitX K (.ref x) (.ref C) (fun h => PySem.W.InstAt h x ox C od) where
  ty := fun _ _ _ I => I.type
  it := fun _ _ X _ => by
    have z0 := c.cls
    unfold PySem.W.clsIn at z0
    split at z0
    · rename_i c' d' cd' sl' ho
      intro A' Q' E' s' k q
      unfold isType loadHead
      exact wpAny_bind (wpAny_loadPart (k _ _ (X _ _ ho)) (wpAny_pure q))
    · cases z0
  ne := fun h tp dd its n sl X htp => by
    refine Bool.eq_false_iff.mpr fun q => ?_
    have e : C = tp := Value.ref.inj (beq_iff_eq.mp q)
    subst e
    have z0 := c.cls
    unfold PySem.W.clsIn at z0
    split at z0
    · rename_i c' d' cd' sl' ho
      have z := (X _ _ ho).symm.trans htp
      cases z
    · cases z0
  ca := fun X I k => exc_class X I c k

def OdOk (H : Hp) (od : Option Addr) : Prop := od = none ∨ ∃ dx fs, od = some dx ∧ H dx = some (.xd fs)
/-- the type of a value -/
inductive TyX (K : PySem.W.Frag) (H : Hp) : V → Value → Prop where
  | of {v : V} {t : Value} (h : TyOf K H v t) : TyX K H v t
  | exc {e C : Addr} {od : Option Addr} (h : H e = some (ExcO e (.ref C) od)) (o : OdOk H od) (c : ExcC K C) : TyX K H (.ref e) (.ref C)

section
variable {X : Cx} {pins : List (Addr × Obj)} {σ : St} {H : Hp} {s : Shared}
theorem inst_of {e C : Addr} {od : Option Addr} (I : Inv X pins σ H s) (h : H e = some (ExcO e (.ref C) od)) (o : OdOk H od) : ∃ ox od', PySem.W.InstAt s.heap e ox C od' ∧ (∀ dx fs, od = some dx → H dx = some (.xd fs) → ∃ obj, od' = some obj ∧ s.heap.get? dx = some obj) := by
  obtain ⟨⟨oe, vs, h1, h2, h3, h4⟩, _, _⟩ := (show ObjOk X.prog X.w H s.heap e (ExcO e (.ref C) od) from I.hok e _ h)
  have no : PySem.W.notCls oe = true := by unfold PySem.W.notCls; rw [h4]
  rcases o with rfl | ⟨dx, fs, rfl, hx⟩
  · exact ⟨oe, none, ⟨h1, h2, no, by rw [h3]; trivial⟩, fun dx fs z => nomatch z⟩
  · obtain ⟨mA, ⟨ob, es, ep, g1, _⟩, _⟩ := (show ObjOk X.prog X.w H s.heap dx (.xd fs) from I.hok dx _ hx)
    refine ⟨oe, some ob, ⟨h1, h2, no, by rw [h3]; exact g1⟩, fun dx' fs' z z2 => ?_⟩
    cases z
    exact ⟨ob, rfl, g1⟩
def clsV : V → Value
  | .ty n => .type n
  | .ref a => .ref a
  | _ => .none
def isCl : V → Bool
  | .ty _ => true
  | .ref _ => true
  | _ => false
theorem clsV_of {c : V} {u : Value} (r : RelV c u) (h : isCl c = true) : u = clsV c := by
  cases c <;> first | exact r | cases h
theorem clsV_all : ∀ {cs : List V} {us : List Value}, Vals cs us → cs.all isCl = true → us = cs.map clsV
  | [], _, .nil, _ => rfl
  | c :: cs, _, .cons r t, h => by
    have h' : isCl c = true ∧ cs.all isCl = true := by simpa using h
    rw [List.map_cons, ← clsV_of r h'.1, ← clsV_all t h'.2]
def rIsi (K : PySem.W.Frag) : List V → Hp → VK → Prop := fun xs H Q => ∃ x c t, xs = [x, c] ∧ TyX K H x t ∧
  ((isCl c = true ∧ ∃ b, PySem.W.kitOne K t (clsV c) = some b ∧ Q (.bl b) H) ∨ (∃ p cs b, c = .ref p ∧ H p = some (.tup cs) ∧ cs.all isCl = true ∧ PySem.W.kitAny K t (cs.map clsV) = some b ∧ Q (.bl b) H))
theorem kit_ty {A : Around} {E : Value → Shared → Prop} {x : V} {u t : Value} (I : Inv X pins σ H s) (rx : RelV x u) (ty : TyX X.K H x t) : u ≠ .builtin "__main__.__loader__#opaque" ∧ ∃ Hh : Heap → Prop, PySem.W.KitX X.K u t Hh ∧ Hh s.heap := by
  cases ty with
  | exc h o c =>
    cases rx
    obtain ⟨ox, od', J, _⟩ := inst_of I h o
    exact ⟨fun z => (nomatch z), _, kitx_exc c, J⟩
  | of h =>
    cases h with
    | non => cases (show u = Value.none from rx); exact ⟨fun z => (nomatch z), _, PySem.W.kitx_none, True.intro⟩
    | bl y => cases (show u = Value.bool y from rx); exact ⟨fun z => (nomatch z), _, PySem.W.kitx_bool, True.intro⟩
    | int i => obtain ⟨t, q⟩ := (show ∃ t, u = Value.int i t from rx); cases q; exact ⟨fun z => (nomatch z), _, PySem.W.kitx_int, True.intro⟩
    | str y => obtain ⟨t, q⟩ := (show ∃ t, u = Value.str y t from rx); cases q; exact ⟨fun z => (nomatch z), _, PySem.W.kitx_str, True.intro⟩
    | flt y => obtain ⟨t, q⟩ := (show ∃ t, u = Value.float y t from rx); cases q; exact ⟨fun z => (nomatch z), _, PySem.W.kitx_float, True.intro⟩
    | @lst a xs ea =>
      cases (show u = Value.ref a from rx)
      obtain ⟨_, _, n, _, h1⟩ := (show ObjOk X.prog X.w H s.heap a (.lst xs) from I.hok a _ ea)
      exact ⟨fun z => (nomatch z), _, PySem.W.kitx_list, ⟨_, h1, rfl⟩⟩
    | @frz a ob xs ea =>
      cases (show u = Value.ref a from rx)
      obtain ⟨_, _, _, n, _, h1⟩ := (show ObjOk X.prog X.w H s.heap a (.frz ob (.lst xs)) from I.hok a _ ea)
      exact ⟨fun z => (nomatch z), _, PySem.W.kitx_list, ⟨_, h1, rfl⟩⟩
    | @tup a xs ea =>
      cases (show u = Value.ref a from rx)
      obtain ⟨_, _, _, o, h1, h2, _⟩ := (show ObjOk X.prog X.w H s.heap a (.tup xs) from I.hok a _ ea)
      exact ⟨fun z => (nomatch z), _, PySem.W.kitx_tuple, ⟨o, h1, h2⟩⟩
    | @dK a kvs ea =>
      cases (show u = Value.ref a from rx)
      obtain ⟨_, _, vs, _, o, es, ep, h1, h2, _⟩ := (show ObjOk X.prog X.w H s.heap a (.dK kvs) from I.hok a _ ea)
      exact ⟨fun z => (nomatch z), _, PySem.W.kitx_dict, ⟨o, h1, h2.1⟩⟩
    | @dT a kvs ea =>
      cases (show u = Value.ref a from rx)
      obtain ⟨_, _, xs, _, o, es, ep, h1, h2, _⟩ := (show ObjOk X.prog X.w H s.heap a (.dT kvs) from I.hok a _ ea)
      exact ⟨fun z => (nomatch z), _, PySem.W.kitx_dict, ⟨o, h1, h2.1⟩⟩
    | @ins a C dx fs ea cl ha hn htk hm =>
      cases (show u = Value.ref a from rx)
      obtain ⟨mA, O, _⟩ := ins_get I.hok ea
      obtain ⟨od, J, _⟩ := O.look
      exact ⟨fun z => (nomatch z), _, PySem.W.kitx_own (cl.get _) cl.hd ha hn htk hm, J⟩
theorem call_isi : CallR X (.builtin "isinstance") (rIsi X.K) := by
  intro pins s σ H xs us Q I r h
  obtain ⟨x, c, t, rfl, ty, h⟩ := h
  obtain ⟨u, v, rfl, rx, rc⟩ := vals2 r
  obtain ⟨hx, Hh, kx, p0⟩ := kit_ty (A := X.A) (E := X.xe) I rx ty
  rcases h with ⟨hc, b, e, q⟩ | ⟨p, cs, b, rfl, hp, hcs, e, q⟩
  · rw [clsV_of rc hc]
    exact PySem.W.kia_one kx I.kIn p0 e hx fun tk => ⟨.bl b, H, I.tok tk, rfl, q⟩
  · cases rc
    obtain ⟨_, its, rv, o, h1, h2, n, h3⟩ := (show ObjOk X.prog X.w H s.heap p (.tup cs) from I.hok p _ hp)
    obtain ⟨oc, od, oda, osl⟩ := o
    dsimp only at h2 h3
    subst h2 h3
    refine PySem.W.kia_tup kx I.kIn p0 h1 (b := b) ?_ hx fun tk => ⟨.bl b, H, I.tok tk, rfl, q⟩
    rw [clsV_all rv hcs]
    exact e
end
end L2

/-! the mathematics of banks, over plain lists -/
namespace Bk
/-- a row: its ground (true: dry), its long -/
abbrev Rw := Bool × Int
def sm (g : Bool) : List Rw → Int
  | [] => 0
  | r :: t => (if r.1 = g then r.2 else 0) + sm g t
def tot : List Rw → Int
  | [] => 0
  | r :: t => r.2 + tot t
theorem tot_sm : ∀ rs : List Rw, tot rs = sm true rs + sm false rs
  | [] => rfl
  | r :: t => by
    have := tot_sm t
    simp only [tot, sm]
    cases h : r.1 <;> simp <;> omega
theorem tot_append : ∀ a b : List Rw, tot (a ++ b) = tot a + tot b
  | [], b => by simp [tot]
  | r :: t, b => by
    have := tot_append t b
    simp only [List.cons_append, tot]; omega
theorem sm_append (g : Bool) : ∀ a b : List Rw, sm g (a ++ b) = sm g a + sm g b
  | [], b => by simp [sm]
  | r :: t, b => by
    have := sm_append g t b
    simp only [List.cons_append, sm]; omega
def put (bs : List Rw) (r : Rw) : List Rw :=
  match bs.getLast? with
  | none => if 0 < r.2 then [r] else []
  | some b => if b.1 = r.1 then bs.dropLast ++ [(r.1, b.2 + r.2)] else if 0 < r.2 then bs ++ [r] else bs
theorem put_nil (r : Rw) : put [] r = if 0 < r.2 then [r] else [] := rfl
theorem put_snoc (bs : List Rw) (b r : Rw) : put (bs ++ [b]) r = if b.1 = r.1 then bs ++ [(r.1, b.2 + r.2)] else if 0 < r.2 then bs ++ [b] ++ [r] else bs ++ [b] := by
  unfold put
  rw [List.getLast?_append]
  simp
def tidy (rs : List Rw) : List Rw := rs.foldl put []
theorem tidy_snoc (rs : List Rw) (r : Rw) : tidy (rs ++ [r]) = put (tidy rs) r := by
  unfold tidy
  rw [List.foldl_append]; rfl
theorem snoc_cases {α : Type} (l : List α) : l = [] ∨ ∃ i x, l = i ++ [x] := by
  rcases List.eq_nil_or_concat l with h | ⟨i, x, h⟩
  · exact .inl h
  · exact .inr ⟨i, x, by rw [h, List.concat_eq_append]⟩
theorem sm_put (g : Bool) (bs : List Rw) (r : Rw) (h : 0 ≤ r.2) : sm g (put bs r) = sm g bs + (if r.1 = g then r.2 else 0) := by
  rcases snoc_cases bs with rfl | ⟨i, b, rfl⟩
  · rw [put_nil]
    split
    · simp [sm]
    · have : r.2 = 0 := by omega
      simp [sm, this]
  · rw [put_snoc]
    split
    · rename_i e
      rw [sm_append, sm_append]
      simp only [sm]
      rw [e]
      split <;> omega
    · split
      · rw [sm_append]; simp [sm]
      · have : r.2 = 0 := by omega
        simp [this]
theorem sm_tidy (g : Bool) (rs : List Rw) (h : ∀ r ∈ rs, 0 ≤ r.2) : sm g (tidy rs) = sm g rs := by
  have key : ∀ (rs acc : List Rw), (∀ r ∈ rs, 0 ≤ r.2) → sm g (rs.foldl put acc) = sm g acc + sm g rs := by
    intro rs
    induction rs with
    | nil => intro acc _; simp [sm]
    | cons r t ih =>
      intro acc h
      rw [List.foldl_cons, ih _ (fun x hx => h x (List.mem_cons_of_mem _ hx)), sm_put g acc r (h r List.mem_cons_self)]
      simp only [sm]; omega
  have := key rs [] h
  simpa [tidy, sm] using this
/-- how much of a stretch from b on, l long, lies between s and e -/
def clip (b l s e : Int) : Int := max (min (b + l) e - max b s) 0
def part (b s e : Int) : List Rw → List Rw
  | [] => []
  | r :: t => (r.1, clip b r.2 s e) :: part (b + r.2) s e t
theorem part_nonneg (s e : Int) : ∀ (rs : List Rw) (b : Int), ∀ r ∈ part b s e rs, 0 ≤ r.2
  | [], _, r, h => by simp [part] at h
  | x :: t, b, r, h => by
    simp only [part, List.mem_cons] at h
    rcases h with rfl | h
    · show 0 ≤ clip _ _ _ _
      unfold clip; omega
    · exact part_nonneg s e t _ r h
theorem part_append (s e : Int) : ∀ (a b : List Rw) (p : Int), part p s e (a ++ b) = part p s e a ++ part (p + tot a) s e b
  | [], b, p => by simp [part, tot]
  | r :: t, b, p => by
    simp only [List.cons_append, part, tot, part_append s e t b (p + r.2)]
    rw [show p + r.2 + tot t = p + (r.2 + tot t) by omega]
theorem part_length (s e : Int) : ∀ (a : List Rw) (p : Int), (part p s e a).length = a.length
  | [], p => rfl
  | r :: t, p => by simp [part, part_length s e t]
theorem tot_nonneg : ∀ (rs : List Rw), (∀ r ∈ rs, 0 ≤ r.2) → 0 ≤ tot rs
  | [], _ => by simp [tot]
  | r :: t, h => by
    have h1 := h r List.mem_cons_self
    have h2 := tot_nonneg t fun x hx => h x (List.mem_cons_of_mem _ hx)
    simp only [tot]; omega
theorem put_length (bs : List Rw) (r : Rw) : (put bs r).length ≤ bs.length + 1 := by
  rcases snoc_cases bs with rfl | ⟨i, b, rfl⟩
  · rw [put_nil]; split <;> simp
  · rw [put_snoc]
    split
    · simp
    · split <;> simp
theorem tidy_length (rs : List Rw) : (tidy rs).length ≤ rs.length := by
  have key : ∀ (rs acc : List Rw), (rs.foldl put acc).length ≤ acc.length + rs.length := by
    intro rs
    induction rs with
    | nil => intro acc; simp
    | cons r t ih =>
      intro acc
      have h1 := ih (put acc r)
      have h2 := put_length acc r
      simp only [List.foldl_cons, List.length_cons]; omega
  have := key rs []
  simpa [tidy] using this
end Bk

set_option Elab.async false
set_option linter.all false
set_option maxRecDepth 100000
/-! L3: defs with defaults; banks on the heap -/
namespace L2
open PySem PySem.Spec PyProof.Rows

/-- a def of the text, its defaults at dV -/
structure FunG (K : PySem.W.Frag) (x qual : Str) (st : Stmt) (f : Addr) (fd : FuncData) (dV : Value) : Prop where
  ex : ∃ (oc : Value) (od : Option Addr) (kV doc pm : Value) (an : Option Addr) (cdv ct : Value) (osl : Array (Option Value)),
    fd = PySem.W.fnOf x qual (defArgs st) (defBody st) (defScope st) dV kV doc pm an cdv ct ∧ K.lookup f = some ⟨oc, od, .func fd, osl⟩ ∧ PySem.W.codeIn K cdv qual = true
  kp : PySem.W.keepIn K (.ref f) = true
section
variable {P : Program} {w : World} {K : PySem.W.Frag} {mg : Str → Option Value} {base : Heap} {x qual : Str} {st : Stmt} {f : Addr} {fd : FuncData} {dV : Value} {N ps : List Str} {k : Nat} {sp : Sp}
theorem FunG.ok (F : FunG K x qual st f fd dV) (S : FnScope N ps (defScope st)) (len : ∀ vs H Q E, sp vs H Q E → vs.length = ps.length)
    (hbody : ∀ (cdv : Value) (A : Around) (outer : List Env) (s : Shared) (H : Hp) (vs : List V) (Q : VK) (E : XK), Room k (A.deeper (envOfC qual (defScope st) s.heap.objs.size f cdv)) → sp vs H Q E →
      ∃ t, PSs (cxOf CX0 P w K mg base N qual (defScope st) f cdv A outer s H E).nox (defBody st) t ∧ t { nx := fun _ H' => Q .non H', rt := Q } (start N vs) H) : FnOk P w K mg base CX0 (k + 1) f fd ps sp := by
  obtain ⟨oc, od, kV, doc, pm, an, cdv, ct, osl, rfl, lk, hcd⟩ := F.ex
  exact fn_of lk hcd S len fun A outer s H vs Q E hr h => let ⟨t, h1, h2⟩ := hbody cdv A outer s H vs Q E hr h; ⟨t, h1.nox, h2⟩
theorem FunG.okE (F : FunG K x qual st f fd dV) (S : FnScope N ps (defScope st)) (len : ∀ vs H Q E, sp vs H Q E → vs.length = ps.length)
    (hbody : ∀ (cdv : Value) (A : Around) (outer : List Env) (s : Shared) (H : Hp) (vs : List V) (Q : VK) (E : XK), Room k (A.deeper (envOfC qual (defScope st) s.heap.objs.size f cdv)) → sp vs H Q E →
      ∃ t, PSs (cxOf (CXE P w) P w K mg base N qual (defScope st) f cdv A outer s H E) (defBody st) t ∧ t { nx := fun _ H' => Q .non H', rt := Q } (start N vs) H) : FnOk P w K mg base (CXE P w) (k + 1) f fd ps sp := by
  obtain ⟨oc, od, kV, doc, pm, an, cdv, ct, osl, rfl, lk, hcd⟩ := F.ex
  exact fn_of lk hcd S len fun A outer s H vs Q E hr h => hbody cdv A outer s H vs Q E hr h
theorem fung_mk {oc : Value} {od an : Option Addr} {osl : Array (Option Value)} {kV doc pm cdv ct : Value} (l : K.lookup f = some ⟨oc, od, .func (PySem.W.fnOf x qual (defArgs st) (defBody st) (defScope st) dV kV doc pm an cdv ct), osl⟩)
    (c : PySem.W.codeIn K cdv qual = true) (k : PySem.W.keepIn K (.ref f) = true) : FunG K x qual st f (PySem.W.fnOf x qual (defArgs st) (defBody st) (defScope st) dV kV doc pm an cdv ct) dV :=
  ⟨⟨oc, od, kV, doc, pm, an, cdv, ct, osl, rfl, l, c⟩, k⟩
/-- no defaults: h is «fun _ _ _ _ _ _ us hl => match us, hl with | [_, _], _ => rfl» -/
theorem FunG.binds (F : FunG K x qual st f fd .none)
    (h : ∀ (kV doc pm : Value) (an : Option Addr) (cdv ct : Value) (us : List Value), us.length = ps.length → bindArgs (PySem.W.fnOf x qual (defArgs st) (defBody st) (defScope st) .none kV doc pm an cdv ct) ⟨us, []⟩ = pure (ps.zip us)) : Binds K fd ps [] := by
  obtain ⟨oc, od, kV, doc, pm, an, cdv, ct, osl, rfl, lk, hcd⟩ := F.ex
  exact Binds.all fun us hl => h kV doc pm an cdv ct us hl
/-- defaults at T, a tuple of the text -/
theorem FunG.bindsD {T : Addr} {oT : Obj} {items : List Value} {n : Nat} {ds : List Value} (F : FunG K x qual st f fd (.ref T)) (hT : K.lookup T = some oT) (hd : oT.data = .seq items.toArray n)
    (h : ∀ (kV doc pm : Value) (an : Option Addr) (cdv ct : Value) (us : List Value), (us ++ ds).length = ps.length → ∃ k : Option (Array Value) → Sem (List (Str × Value)),
      bindArgs (PySem.W.fnOf x qual (defArgs st) (defBody st) (defScope st) (.ref T) kV doc pm an cdv ct) ⟨us, []⟩ = seqItems? (.ref T) >>= k ∧ k (some items.toArray) = pure (ps.zip (us ++ ds))) : Binds K fd ps ds := by
  obtain ⟨oc, od, kV, doc, pm, an, cdv, ct, osl, rfl, lk, hcd⟩ := F.ex
  intro s us KX hl
  obtain ⟨k, h1, h2⟩ := h kV doc pm an cdv ct us hl
  exact BindsTo.of_defaults rfl (KX _ _ hT) hd h1 h2
end

/-- all that a caller needs of a def without defaults -/
structure Df (K : PySem.W.Frag) (mg : Str → Option Value) (x : Str) (st : Stmt) (ps : List Str) (f : Addr) (fd : FuncData) : Prop where
  fn : FunG K x x st f fd .none
  gl : mg x = some (.ref f)
  bd : Binds K fd ps []

/-! ### banks on the heap -/
def gs (g : Bool) : Str := if g then "dry" else "wet"
theorem gs_inj {a b : Bool} : gs a = gs b ↔ a = b := by cases a <;> cases b <;> decide +kernel
def RowAt (H : Hp) (v : V) (r : Bk.Rw) : Prop := ∃ p, v = .ref p ∧ H p = some (.tup [.str (gs r.1), .int r.2])
abbrev RowsAt (H : Hp) : List V → List Bk.Rw → Prop := Paired (RowAt H)
/-- tuples stay -/
def Tps (H H' : Hp) : Prop := ∀ b xs, H b = some (.tup xs) → H' b = some (.tup xs)
theorem Same.tps {H H' : Hp} (h : Same H H') : Tps H H' := fun b xs e => h b _ e
theorem Tps.trans {H H1 H2 : Hp} (a : Tps H H1) (b : Tps H1 H2) : Tps H H2 := fun c xs e => b c xs (a c xs e)
theorem RowAt.mono {H H' : Hp} {v : V} {r : Bk.Rw} (h : RowAt H v r) (t : Tps H H') : RowAt H' v r := let ⟨p, e, q⟩ := h; ⟨p, e, t p _ q⟩
theorem RowsAt.mono {H H' : Hp} {vs : List V} {rs : List Bk.Rw} (h : RowsAt H vs rs) (t : Tps H H') : RowsAt H' vs rs := Paired.mapP h fun _ _ q => q.mono t
theorem RowsAt.snoc {H : Hp} {vs : List V} {rs : List Bk.Rw} {v : V} {r : Bk.Rw} (h : RowsAt H vs rs) (q : RowAt H v r) : RowsAt H (vs ++ [v]) (rs ++ [r]) := Paired.snoc h q
theorem RowsAt.get {H : Hp} : ∀ {vs : List V} {rs : List Bk.Rw} {i : Nat} {v : V}, RowsAt H vs rs → vs[i]? = some v → ∃ r, rs[i]? = some r ∧ RowAt H v r
  | _, _, 0, _, .cons h _, e => by simp at e; subst e; exact ⟨_, by simp, h⟩
  | _, _, i + 1, _, .cons _ t, e => by
    obtain ⟨r, h1, h2⟩ := RowsAt.get (i := i) t (by simpa using e)
    exact ⟨r, by simpa using h1, h2⟩
  | _, _, _, _, .nil, e => by simp at e
theorem RowsAt.split {H : Hp} {rs : List Bk.Rw} {r : Bk.Rw} : ∀ {vs : List V}, RowsAt H vs (rs ++ [r]) → ∃ ws v, vs = ws ++ [v] ∧ RowsAt H ws rs ∧ RowAt H v r := by
  induction rs with
  | nil =>
    intro vs h
    cases h with
    | cons h1 t => cases t; exact ⟨[], _, rfl, .nil, h1⟩
  | cons a rs ih =>
    intro vs h
    cases h with
    | cons h1 t =>
      obtain ⟨ws, v, rfl, h2, h3⟩ := ih t
      exact ⟨_ :: ws, v, rfl, .cons h1 h2, h3⟩
theorem same_new {H : Hp} {p : Addr} {o : HO} (h : H p = none) : Same H (upd H p o) := fun b u e => by rw [upd_ne (ne_of_none e h)]; exact e
/-- a thing that was new is written: what was there stays -/
theorem Same.write {H H1 : Hp} {p : Addr} {o : HO} (s : Same H H1) (h : H p = none) : Same H (upd H1 p o) := fun b u e => by rw [upd_ne (ne_of_none e h)]; exact s b u e
end L2

set_option Elab.async false
set_option linter.all false
set_option maxRecDepth 100000
/-! L3: the forms of comprehensions that one uses -/
namespace L2
open PySem PySem.Spec PyProof.Rows
/-- one turn more -/
def Nx (n i : Nat) (P : Prop) : Prop := ∃ m', m' < n - i ∧ m' = n - (i + 1) ∧ i + 1 ≤ n ∧ P
theorem nx {n i : Nat} {P : Prop} (h : i < n) (p : P) : Nx n i P := ⟨n - (i + 1), by omega, rfl, h, p⟩
theorem comp_list {K : PySem.W.Frag} {a p : Addr} {xs : List V} {g : TG} {tt : TT} {te : TE} {σc : St} {H0 : Hp} {R : Hp → Prop} (Pv : Nat → List V → Hp → Prop) (h0 : Pv 0 [] H0) (hl : ∀ i ys H, Pv i ys H → SqL K H a xs ∧ H p = some (.lst ys))
    (hs : ∀ i x ys H, i < xs.length → xs[i]? = some x → Pv i ys H → g x σc H fun σ2 H2 => Wk σc σ2 ∧ tt σ2 H2 fun b H3 =>
      if b = true then te σ2 H3 fun y H4 => H4 p = some (.lst ys) ∧ ys.length < sizeLine ∧ Nx xs.length i (Pv (i + 1) (ys ++ [y]) (upd H4 p (.lst (ys ++ [y])))) else Nx xs.length i (Pv (i + 1) ys H3))
    (hd : ∀ ys H, Pv xs.length ys H → R H) : ∃ W : Nat → Nat → List V → Hp → Prop, (∃ m, W 0 m [] H0) ∧ cTurn (Itl K a) g tt te σc p W R := by
  refine ⟨fun i m ys H => m = xs.length - i ∧ i ≤ xs.length ∧ Pv i ys H, ⟨xs.length, by simp, Nat.zero_le _, h0⟩, ?_⟩
  rintro i m ys H ⟨rfl, hi, q⟩
  obtain ⟨q1, q2⟩ := hl i ys H q
  refine ⟨q2, ?_⟩
  by_cases hlt : i < xs.length
  · refine .inr ⟨⟨xs, xs[i], q1, by simp [hlt]⟩, fun x H' y => ?_⟩
    obtain ⟨e, y⟩ := y
    subst e
    exact hs i x ys H' hlt (y xs q1) q
  · have e : i = xs.length := by omega
    subst e
    exact .inl ⟨⟨xs, q1, Nat.le_refl _⟩, hd ys H q⟩
theorem comp_range {lo : Int} {n : Nat} {p : Addr} {g : TG} {tt : TT} {te : TE} {σc : St} {H0 : Hp} {R : Hp → Prop} (Pv : Nat → List V → Hp → Prop) (h0 : Pv 0 [] H0) (hl : ∀ i ys H, Pv i ys H → H p = some (.lst ys))
    (hs : ∀ i ys H, i < n → Pv i ys H → g (.int (lo + i)) σc H fun σ2 H2 => Wk σc σ2 ∧ tt σ2 H2 fun b H3 =>
      if b = true then te σ2 H3 fun y H4 => H4 p = some (.lst ys) ∧ ys.length < sizeLine ∧ Nx n i (Pv (i + 1) (ys ++ [y]) (upd H4 p (.lst (ys ++ [y])))) else Nx n i (Pv (i + 1) ys H3))
    (hd : ∀ ys H, Pv n ys H → R H) : ∃ W : Nat → Nat → List V → Hp → Prop, (∃ m, W 0 m [] H0) ∧ cTurn (Itr lo n) g tt te σc p W R := by
  refine ⟨fun i m ys H => m = n - i ∧ i ≤ n ∧ Pv i ys H, ⟨n, by simp, Nat.zero_le _, h0⟩, ?_⟩
  rintro i m ys H ⟨rfl, hi, q⟩
  refine ⟨hl i ys H q, ?_⟩
  by_cases hlt : i < n
  · refine .inr ⟨hlt, fun x H' y => ?_⟩
    obtain ⟨e, y⟩ := y
    subst e y
    exact hs i ys H' hlt q
  · have e : i = n := by omega
    subst e
    exact .inl ⟨Nat.le_refl _, hd ys H q⟩
theorem yes {σ : St} {H : Hp} {A B : Hp → Prop} (h : A H) : tYes σ H fun b H3 => if b = true then A H3 else B H3 := by
  show if true = true then A H else B H
  exact iteT (A := A H) (B := B H) h
/-! rules whose reading names the text's part itself, for a block -/
section
variable {X : Cx} {K : PySem.W.Frag}
theorem ix_tupK (h : X.K = K) : IxR X (rIxT K) := h ▸ ix_tup
theorem ix_listK (h : X.K = K) : IxR X (rIxL K) := h ▸ ix_list
theorem pg_tupK {es : List Expr} {k : Nat} {pos : Pos} {t : TGs} {n : Nat} (h : X.K = K) (hc : X.calm = true) (g : PGs X es t) (hn : (assignEach es X.env).length = n := by rfl) (hst : (assignEach es X.env).findIdx? (·.1) = none := by rfl) : PG X (.Tuple es k pos) (gTup K n t) := h ▸ pg_tup hc g hn hst
end
end L2

set_option Elab.async false
set_option linter.all false
set_option maxRecDepth 100000
set_option maxHeartbeats 4000000
/-! L4: refusals with an __init__ of their own, upon the heap -/
namespace L2
open PySem PySem.Spec PyProof.Rows


section
variable {prog : Program} {w : World} {A : Around} {E : Value → Shared → Prop} {s : Shared} {K : PySem.W.Frag} {C aB f e t : Addr} {od : Option Addr}


end
end L2

set_option Elab.async false
set_option linter.all false
set_option maxRecDepth 100000
set_option maxHeartbeats 4000000
/-! L4: a field of a refusal stored and read, upon the heap; a refusal raised -/
namespace L2
open PySem PySem.Spec PyProof.Rows
open Builtin Builtin.ObjectAttr

section
variable {prog : Program} {w : World} {A : Around} {E : Value → Shared → Prop} {s : Shared} {K : PySem.W.Frag} {C aB f e t : Addr} {od : Option Addr} {name : Str} {v : Value}


end
end L2

set_option Elab.async false
set_option linter.all false
set_option maxRecDepth 100000
set_option maxHeartbeats 4000000
/-! L4: rules for refusals with an __init__ of their own -/
namespace L2
open PySem PySem.Spec PyProof.Rows


section
variable {X : Cx} {pins : List (Addr × Obj)} {σ : St} {H : Hp} {s : Shared} {a C : Addr} {φ : Heap → Prop}
end

/-! ### f"..{n}" -/
section
variable {X : Cx} {x : Str} {j : Nat} {cp vp jp : Pos} {te : TE} {val : Expr}
end

/-! ### B.__init__(self, ..) -/
section
variable {X : Cx} {x : Str} {np apos pos : Pos} {aB : Addr} {e : Expr} {es : List Expr} {t : TA}
end

/-! ### e.name = value, in an __init__ -/
section
variable {X : Cx} {o value : Expr} {nm : Str} {pos pos' : Pos} {ta tv : TE}
end

/-! ### raise C(..) -/
section
variable {X : Cx} {E : XK} {C aB f : Addr} {fd : FuncData} {ps : List Str} {sp : Sp} {k : Nat} {x : Str} {np cpos pos : Pos} {e : Expr} {es : List Expr} {t : TA}
end

/-! ### e.name of a refusal that was caught -/
section
variable {X : Cx} {o : Expr} {nm : Str} {pos : Pos} {ta : TE}
end
end L2

set_option Elab.async false
set_option linter.all false
set_option maxRecDepth 100000
set_option maxHeartbeats 4000000
/-! L4: {}; things of any plain kind; rows of any two things -/
namespace L2
open PySem PySem.Spec PyProof.Rows

section
variable {X : Cx} {pins : List (Addr × Obj)} {σ : St} {H : Hp} {s : Shared} {pos : Pos}
end

/-- an item of a written list, at a place in it -/
theorem atI_in {L : List V} {i : Int} (h0 : 0 ≤ i) (h1 : i < L.length) : ∃ v, v ∈ L ∧ atI L i = some v := by
  have hk : i.toNat < L.length := by omega
  refine ⟨L[i.toNat], List.getElem_mem hk, ?_⟩
  have e : i = ((i.toNat : Nat) : Int) := by omega
  have h := atI_nat (xs := L) (j := i.toNat) (v := L[i.toNat]) (List.getElem?_eq_getElem hk)
  rw [← e] at h
  exact h
end L2

set_option linter.all false
/-! banks by turns: what is cut out of them, and what is left -/
namespace Bk
/-- by turns: no two neighbours of one ground -/
def Alt : List Rw → Prop
  | [] => True
  | [_] => True
  | a :: b :: t => a.1 ≠ b.1 ∧ Alt (b :: t)
theorem Alt.tail : ∀ {r : Rw} {t : List Rw}, Alt (r :: t) → Alt t
  | _, [], _ => True.intro
  | _, _ :: _, h => h.2
theorem alt_cons {r : Rw} : ∀ {t : List Rw}, Alt t → (∀ b, t.head? = some b → r.1 ≠ b.1) → Alt (r :: t)
  | [], _, _ => True.intro
  | b :: t, h, q => ⟨q b rfl, h⟩
theorem alt_snoc : ∀ {rs : List Rw} {r : Rw}, Alt rs → (∀ b, rs.getLast? = some b → b.1 ≠ r.1) → Alt (rs ++ [r])
  | [], r, _, _ => True.intro
  | [a], r, _, h => ⟨h a rfl, True.intro⟩
  | a :: b :: t, r, h, q => ⟨h.1, alt_snoc (rs := b :: t) h.2 (fun c e => q c (by rw [← e]; simp [List.getLast?_cons_cons]))⟩
/-- those with a long -/
def pos (rs : List Rw) : List Rw := rs.filter fun r => decide (0 < r.2)
theorem pos_pos {rs : List Rw} : ∀ r ∈ pos rs, 0 < r.2 := fun r h => by
  have := (List.mem_filter.mp h).2
  simpa using this
theorem pos_cons (rs : List Rw) (r : Rw) : pos (r :: rs) = if 0 < r.2 then r :: pos rs else pos rs := by
  unfold pos
  by_cases h : 0 < r.2 <;> simp [h]
theorem pos_length (rs : List Rw) : (pos rs).length ≤ rs.length := List.length_filter_le _ _
/-- rows put behind a bank, by turns, each with a long -/
theorem fold_alt : ∀ (t acc : List Rw), Alt t → (∀ r ∈ t, 0 < r.2) → (∀ a b, acc.getLast? = some a → t.head? = some b → a.1 ≠ b.1) → t.foldl put acc = acc ++ t
  | [], acc, _, _, _ => by simp
  | r :: t, acc, h, p, q => by
    have hr := p r List.mem_cons_self
    have e : put acc r = acc ++ [r] := by
      rcases snoc_cases acc with rfl | ⟨i, b, rfl⟩
      · rw [put_nil, if_pos hr]; rfl
      · rw [put_snoc, if_neg (q b r (by simp) rfl), if_pos hr]
    rw [List.foldl_cons, e, fold_alt t (acc ++ [r]) h.tail (fun x hx => p x (List.mem_cons_of_mem _ hx)) ?_]
    · simp
    · intro a b ha hb
      have ea : a = r := by simpa using ha.symm
      subst ea
      cases t with
      | nil => cases hb
      | cons c t' => cases hb; exact h.1
theorem tidy_alt {t : List Rw} (h : Alt t) (p : ∀ r ∈ t, 0 < r.2) : tidy t = t := by
  unfold tidy
  rw [fold_alt t [] h p (fun a b ha => by cases ha)]
  rfl
/-- where the rows with a long go by turns, the others do nothing -/
theorem tidy_pos (rs : List Rw) (h0 : ∀ r ∈ rs, 0 ≤ r.2) (h : Alt (pos rs)) : tidy rs = pos rs := by
  have key : ∀ (t acc : List Rw), (∀ r ∈ t, 0 ≤ r.2) → Alt (pos t) → (∀ a b, acc.getLast? = some a → (pos t).head? = some b → a.1 ≠ b.1) → t.foldl put acc = acc ++ pos t := by
    intro t
    induction t with
    | nil => intro acc _ _ _; simp [pos]
    | cons r t ih =>
      intro acc h0 h q
      have hr := h0 r List.mem_cons_self
      have h0' : ∀ x ∈ t, 0 ≤ x.2 := fun x hx => h0 x (List.mem_cons_of_mem _ hx)
      rw [List.foldl_cons]
      rw [pos_cons] at h q ⊢
      by_cases hp : 0 < r.2
      · rw [if_pos hp] at h q ⊢
        have e : put acc r = acc ++ [r] := by
          rcases snoc_cases acc with rfl | ⟨i, b, rfl⟩
          · rw [put_nil, if_pos hp]; rfl
          · rw [put_snoc, if_neg (q b r (by simp) rfl), if_pos hp]
        rw [e, ih (acc ++ [r]) h0' h.tail ?_]
        · simp
        · intro a b ha hb
          have ea : a = r := by simpa using ha.symm
          subst ea
          generalize pos t = u at h hb
          cases u with
          | nil => cases hb
          | cons c t' => cases hb; exact h.1
      · rw [if_neg hp] at h q ⊢
        have hz : r.2 = 0 := by omega
        have e : put acc r = acc := by
          rcases snoc_cases acc with rfl | ⟨i, b, rfl⟩
          · rw [put_nil, if_neg hp]
          · rw [put_snoc]
            split
            · rename_i e
              rw [hz, Int.add_zero, ← e]
            · rfl
        rw [e, ih acc h0' h q]
  have := key rs [] h0 h (fun a b ha => by cases ha)
  unfold tidy
  rw [this]; rfl
theorem part_out : ∀ (rs : List Rw) (b s e : Int), (∀ r ∈ rs, 0 ≤ r.2) → e ≤ b → pos (part b s e rs) = []
  | [], _, _, _, _, _ => rfl
  | r :: t, b, s, e, h, hb => by
    have hr := h r List.mem_cons_self
    simp only [part]
    rw [pos_cons, if_neg (by show ¬ 0 < clip _ _ _ _; unfold clip; omega)]
    exact part_out t _ s e (fun x hx => h x (List.mem_cons_of_mem _ hx)) (by omega)
/-- what is cut out of a bank by turns goes by turns -/
theorem part_alt : ∀ (rs : List Rw) (b s e : Int), Alt rs → (∀ r ∈ rs, 0 < r.2) → Alt (pos (part b s e rs))
  | [], _, _, _, _, _ => True.intro
  | r :: t, b, s, e, h, p => by
    have hr := p r List.mem_cons_self
    have p' : ∀ x ∈ t, 0 < x.2 := fun x hx => p x (List.mem_cons_of_mem _ hx)
    have ih := part_alt t (b + r.2) s e h.tail p'
    simp only [part]
    rw [pos_cons]
    by_cases hc : 0 < clip b r.2 s e
    · rw [if_pos hc]
      refine alt_cons ih (fun c hcc => ?_)
      by_cases he : e ≤ b + r.2
      · rw [part_out t _ s e (fun x hx => Int.le_of_lt (p' x hx)) he] at hcc
        cases hcc
      · cases t with
        | nil => cases hcc
        | cons d t' =>
          have hd := p' d List.mem_cons_self
          simp only [part] at hcc
          have : 0 < clip (b + r.2) d.2 s e := by unfold clip at hc ⊢; omega
          rw [pos_cons, if_pos this] at hcc
          cases hcc
          exact h.1
    · rw [if_neg hc]
      exact ih
theorem tidy_part {rs : List Rw} (s e : Int) (h : Alt rs) (p : ∀ r ∈ rs, 0 < r.2) : tidy (part 0 s e rs) = pos (part 0 s e rs) := tidy_pos _ (part_nonneg _ _ _ _) (part_alt rs 0 s e h p)
/-- two banks by turns, put together where they meet -/
def meet (a b : List Rw) : List Rw :=
  match a.getLast?, b with
  | some x, y :: t => if x.1 = y.1 then a.dropLast ++ (x.1, x.2 + y.2) :: t else a ++ b
  | _, _ => a ++ b
theorem meet_nil_right (a : List Rw) : meet a [] = a := by
  unfold meet
  cases a.getLast? <;> simp
theorem meet_nil_left (b : List Rw) : meet [] b = b := by simp [meet]
theorem meet_snoc (i : List Rw) (x y : Rw) (t : List Rw) : meet (i ++ [x]) (y :: t) = if x.1 = y.1 then i ++ (x.1, x.2 + y.2) :: t else (i ++ [x]) ++ y :: t := by
  simp [meet]
theorem tidy_meet {a b : List Rw} (ha : Alt a) (hb : Alt b) (pa : ∀ r ∈ a, 0 < r.2) (pb : ∀ r ∈ b, 0 < r.2) : tidy (a ++ b) = meet a b := by
  have ta := tidy_alt ha pa
  unfold tidy at ta ⊢
  rw [List.foldl_append, ta]
  cases b with
  | nil => rw [meet_nil_right]; rfl
  | cons y t =>
    rcases snoc_cases a with rfl | ⟨i, x, rfl⟩
    · rw [meet_nil_left, fold_alt _ _ hb pb (fun a b h => by cases h)]; rfl
    · rw [meet_snoc]
      by_cases e : x.1 = y.1
      · rw [if_pos e, List.foldl_cons, put_snoc, if_pos e]
        rw [fold_alt t _ hb.tail (fun r hr => pb r (List.mem_cons_of_mem _ hr)) ?_]
        · rw [e]; simp
        · intro c d hc hd
          have ec : c = (y.1, x.2 + y.2) := by simpa using hc.symm
          subst ec
          cases t with
          | nil => cases hd
          | cons z t' => cases hd; exact hb.1
      · rw [if_neg e, fold_alt (y :: t) _ hb pb ?_]
        intro c d hc hd
        have ec : c = x := by simpa using hc.symm
        subst ec
        cases hd
        exact e
end Bk

set_option linter.all false
/-! windows of half the length: the mathematics of half places -/
namespace Bk
/-- ground g up to the place x, the rows from b on -/
def cum (g : Bool) (x : Int) : Int → List Rw → Int
  | _, [] => 0
  | b, r :: t => (if r.1 = g then max (min r.2 (x - b)) 0 else 0) + cum g x (b + r.2) t
theorem clip_two (b l s e : Int) (hl : 0 ≤ l) (hse : s ≤ e) : clip b l s e = max (min l (e - b)) 0 - max (min l (s - b)) 0 := by
  unfold clip
  by_cases h : s ≤ b
  · rw [show max b s = b by omega, show max (min l (s - b)) 0 = 0 by omega, show min (b + l) e - b = min l (e - b) by omega]; omega
  · rw [show max b s = s by omega, show min l (e - b) = min (b + l) e - b by omega]
    by_cases h2 : b + l ≤ s
    · rw [show min (b + l) e = b + l by omega, show min l (s - b) = l by omega]; omega
    · rw [show min l (s - b) = s - b by omega]
      generalize hu : min (b + l) e = u
      have : s ≤ u := by omega
      omega
theorem clip_add {l t y : Int} (h0 : 0 ≤ l) (h1 : 0 ≤ t) : max (min (l + t) y) 0 = max (min l y) 0 + max (min t (y - l)) 0 := by
  by_cases h : y ≤ l
  · rw [show max (min t (y - l)) 0 = 0 by omega, show min (l + t) y = min l y by omega]; omega
  · rw [show min l y = l by omega, show min (l + t) y = l + min t (y - l) by omega]
    generalize hu : min t (y - l) = u
    have : 0 ≤ u := by omega
    omega
theorem sm_part (g : Bool) (s e : Int) (hse : s ≤ e) : ∀ (rs : List Rw) (b : Int), (∀ r ∈ rs, 0 ≤ r.2) → sm g (part b s e rs) = cum g e b rs - cum g s b rs
  | [], b, _ => by simp [part, sm, cum]
  | r :: t, b, h => by
    have ih := sm_part g s e hse t (b + r.2) (fun x hx => h x (List.mem_cons_of_mem _ hx))
    have hr := h r List.mem_cons_self
    simp only [part, sm, cum, ih, clip_two b r.2 s e hr hse]
    generalize max (min r.2 (e - b)) 0 = u, max (min r.2 (s - b)) 0 = v
    split
    · omega
    · omega
theorem cum_low (g : Bool) (x : Int) : ∀ (rs : List Rw) (b : Int), (∀ r ∈ rs, 0 ≤ r.2) → x ≤ b → cum g x b rs = 0
  | [], _, _, _ => rfl
  | r :: t, b, h, hb => by
    have hr := h r List.mem_cons_self
    have ih := cum_low g x t (b + r.2) (fun y hy => h y (List.mem_cons_of_mem _ hy)) (by omega)
    simp only [cum, ih]
    split
    · omega
    · omega
theorem cum_high (g : Bool) (x : Int) : ∀ (rs : List Rw) (b : Int), (∀ r ∈ rs, 0 ≤ r.2) → b + tot rs ≤ x → cum g x b rs = sm g rs
  | [], _, _, _ => rfl
  | r :: t, b, h, hb => by
    have hr := h r List.mem_cons_self
    have h' : ∀ y ∈ t, 0 ≤ y.2 := fun y hy => h y (List.mem_cons_of_mem _ hy)
    have ht := tot_nonneg t h'
    simp only [tot] at hb
    have ih := cum_high g x t (b + r.2) h' (by omega)
    simp only [cum, sm, ih]
    split
    · omega
    · omega
theorem cum_step (g : Bool) (x : Int) : ∀ (rs : List Rw) (b : Int), (∀ r ∈ rs, 0 ≤ r.2) → cum g x b rs ≤ cum g (x + 1) b rs ∧ cum g (x + 1) b rs ≤ cum g x b rs + 1
  | [], _, _ => by simp [cum]
  | r :: t, b, h => by
    have hr := h r List.mem_cons_self
    have h' : ∀ y ∈ t, 0 ≤ y.2 := fun y hy => h y (List.mem_cons_of_mem _ hy)
    by_cases hx : x < b + r.2
    · have e1 := cum_low g x t (b + r.2) h' (by omega)
      have e2 := cum_low g (x + 1) t (b + r.2) h' (by omega)
      simp only [cum, e1, e2]
      split <;> omega
    · have ih := cum_step g x t (b + r.2) h'
      simp only [cum]
      split <;> omega
theorem cum_append (g : Bool) (x : Int) : ∀ (a c : List Rw) (b : Int), cum g x b (a ++ c) = cum g x b a + cum g x (b + tot a) c
  | [], c, b => by simp [cum, tot]
  | r :: t, c, b => by
    have ih := cum_append g x t c (b + r.2)
    simp only [List.cons_append, cum, tot, ih]
    rw [show b + r.2 + tot t = b + (r.2 + tot t) by omega]
    omega
/-- both grounds together: the way itself -/
theorem cum_both (x : Int) : ∀ (rs : List Rw) (b : Int), (∀ r ∈ rs, 0 ≤ r.2) → cum true x b rs + cum false x b rs = max (min (tot rs) (x - b)) 0
  | [], b, _ => by simp only [cum, tot]; omega
  | r :: t, b, h => by
    have hr := h r List.mem_cons_self
    have h' : ∀ y ∈ t, 0 ≤ y.2 := fun y hy => h y (List.mem_cons_of_mem _ hy)
    have ht := tot_nonneg t h'
    have ih := cum_both x t (b + r.2) h'
    simp only [cum, tot]
    have ca := clip_add (y := x - b) hr ht
    rw [show x - b - r.2 = x - (b + r.2) by omega] at ca
    rw [ca, ← ih]
    generalize max (min r.2 (x - b)) 0 = u
    cases r.1 <;> simp <;> omega
/-- how much more than the half a window from x on has -/
def over (g : Bool) (rs : List Rw) (h x : Int) : Int := 2 * (cum g (x + h) 0 rs - cum g x 0 rs) - sm g rs

/-! steps of at most one do not pass over 0 -/
theorem pos_until (f : Nat → Int) : ∀ (n : Nat), (∀ i, i < n → f i - f (i + 1) ≤ 1) → 0 < f 0 → (∀ i, i ≤ n → f i ≠ 0) → ∀ i, i ≤ n → 0 < f i := by
  intro n hs h0 hz i
  induction i with
  | zero => intro _; exact h0
  | succ i ih =>
    intro hi
    have h1 := ih (by omega)
    have h2 := hs i (by omega)
    have h3 := hz (i + 1) hi
    omega
theorem zero_first (f : Nat → Int) (n : Nat) (hs : ∀ i, i < n → f i - f (i + 1) ≤ 1) (h0 : 0 < f 0) (hn : f n ≤ 0) : ∃ p, p ≤ n ∧ f p = 0 ∧ ∀ i, i < p → f i ≠ 0 := by
  have key : ∃ p, p ≤ n ∧ f p = 0 := by
    refine Classical.byContradiction fun c => ?_
    have z := pos_until f n hs h0 (fun i hi e => c ⟨i, hi, e⟩) n (Nat.le_refl _)
    omega
  obtain ⟨p, hp, hz⟩ := key
  induction p using Nat.strongRecOn with
  | ind p ih =>
    by_cases q : ∃ j, j < p ∧ f j = 0
    · obtain ⟨j, hj, e⟩ := q
      exact ih j hj (by omega) e
    · exact ⟨p, hp, hz, fun i hi e => q ⟨i, hi, e⟩⟩
end Bk

set_option linter.all false
/-! half places, told; rows made longer -/
namespace Bk
/-- p is the half place of rs (dry ground alone: the wet follows) -/
structure IsHalf (rs : List Rw) (p : Int) : Prop where
  nn : 0 ≤ p
  le : p ≤ tot rs / 2
  at_ : over true rs (tot rs / 2) p = 0
  no : ∀ x, 0 ≤ x → x < p → over true rs (tot rs / 2) x ≠ 0
theorem over_step (g : Bool) (rs : List Rw) (h x : Int) (h0 : ∀ r ∈ rs, 0 ≤ r.2) : over g rs h x - over g rs h (x + 1) ≤ 2 ∧ over g rs h (x + 1) - over g rs h x ≤ 2 := by
  have a := cum_step g x rs 0 h0
  have b := cum_step g (x + h) rs 0 h0
  have e : x + 1 + h = x + h + 1 := by omega
  unfold over
  rw [e]
  omega
/-- a row made longer -/
theorem sm_set (g : Bool) (d : Int) : ∀ (rs : List Rw) (k : Nat) (r : Rw), rs[k]? = some r → sm g (rs.set k (r.1, r.2 + d)) = sm g rs + (if r.1 = g then d else 0)
  | [], k, r, h => by simp at h
  | q :: t, 0, r, h => by
    have e : q = r := by simpa using h
    subst e
    simp only [List.set_cons_zero, sm]
    split <;> omega
  | q :: t, k + 1, r, h => by
    have ih := sm_set g d t k r (by simpa using h)
    simp only [List.set_cons_succ, sm, ih]
    omega
theorem alt_set (l : Int) : ∀ (rs : List Rw) (k : Nat) (r : Rw), rs[k]? = some r → Alt rs → Alt (rs.set k (r.1, l))
  | [], k, r, h, _ => by simp at h
  | [q], 0, r, h, _ => True.intro
  | [q], k + 1, r, h, _ => by simp at h
  | q :: q2 :: t, 0, r, h, a => by
    have e : q = r := by simpa using h
    subst e
    exact ⟨a.1, a.2⟩
  | q :: q2 :: t, 1, r, h, a => by
    have e : q2 = r := by simpa using h
    subst e
    have ih := alt_set l (q2 :: t) 0 q2 rfl a.2
    exact ⟨a.1, ih⟩
  | q :: q2 :: t, k + 2, r, h, a => by
    have ih := alt_set l (q2 :: t) (k + 1) r (by simpa using h) a.2
    exact ⟨a.1, ih⟩
theorem pos_set (d : Int) (hd : 0 ≤ d) (rs : List Rw) (k : Nat) (r : Rw) (h : rs[k]? = some r) (p : ∀ x ∈ rs, 0 < x.2) : ∀ x ∈ rs.set k (r.1, r.2 + d), 0 < x.2 := by
  intro x hx
  rcases List.mem_or_eq_of_mem_set hx with z | z
  · exact p x z
  · rw [z]
    have := p r (List.mem_of_getElem? h)
    show 0 < r.2 + d
    omega
end Bk

set_option linter.all false
/-! a bank place by place -/
namespace Bk
end Bk

set_option Elab.async false
set_option linter.all false
set_option maxRecDepth 100000
/-! L5: pieces and shares on the heap -/
namespace L2
open PySem PySem.Spec PyProof.Rows
abbrev Pc : Type := Int × Int
def PcAt (H : Hp) (v : V) (p : Pc) : Prop := ∃ q, v = .ref q ∧ H q = some (.tup [.int p.1, .int p.2])
abbrev PcsAt (H : Hp) : List V → List Pc → Prop := Paired (PcAt H)
theorem PcAt.mono {H H' : Hp} {v : V} {r : Pc} (h : PcAt H v r) (t : Tps H H') : PcAt H' v r := let ⟨p, e, q⟩ := h; ⟨p, e, t p _ q⟩
theorem PcsAt.mono {H H' : Hp} {vs : List V} {rs : List Pc} (h : PcsAt H vs rs) (t : Tps H H') : PcsAt H' vs rs := Paired.mapP h fun _ _ q => q.mono t
theorem paired_get {α β : Type} {F : α → β → Prop} : ∀ {vs : List α} {rs : List β} {i : Nat} {v : α}, Paired F vs rs → vs[i]? = some v → ∃ r, rs[i]? = some r ∧ F v r
  | _, _, 0, _, .cons h _, e => by simp at e; subst e; exact ⟨_, by simp, h⟩
  | _, _, i + 1, _, .cons _ t, e => by
    obtain ⟨r, h1, h2⟩ := paired_get (i := i) t (by simpa using e)
    exact ⟨r, by simpa using h1, h2⟩
  | _, _, _, _, .nil, e => by simp at e
/-- a share: a list of pieces -/
def ShAt (H : Hp) (a : Addr) (ps : List Pc) : Prop := ∃ xs, H a = some (.lst xs) ∧ PcsAt H xs ps
abbrev ShsAt (H : Hp) : List Addr → List (List Pc) → Prop := Paired (ShAt H)
theorem ShAt.mono {H H' : Hp} {a : Addr} {ps : List Pc} (h : ShAt H a ps) (s : Same H H') : ShAt H' a ps := let ⟨xs, e, q⟩ := h; ⟨xs, s _ _ e, q.mono s.tps⟩
theorem ShsAt.mono {H H' : Hp} {as : List Addr} {S : List (List Pc)} (h : ShsAt H as S) (s : Same H H') : ShsAt H' as S := Paired.mapP h fun _ _ q => q.mono s
/-- shares: a list of such -/
def SsAt (H : Hp) (p : Addr) (as : List Addr) (S : List (List Pc)) : Prop := H p = some (.lst (as.map V.ref)) ∧ ShsAt H as S
theorem SsAt.mono {H H' : Hp} {p : Addr} {as : List Addr} {S : List (List Pc)} (h : SsAt H p as S) (s : Same H H') : SsAt H' p as S := ⟨s _ _ h.1, h.2.mono s⟩
theorem ShAt.write {H : Hp} {a c : Addr} {o : HO} {ps : List Pc} {xs : List V} (h : ShAt H a ps) (n : a ≠ c) (hc : H c = some (.lst xs)) : ShAt (upd H c o) a ps := by
  obtain ⟨ys, e, q⟩ := h
  refine ⟨ys, by rw [upd_ne n]; exact e, q.mono fun b zs z => ?_⟩
  rw [upd_ne (fun y => by rw [y, hc] at z; cases z)]; exact z
theorem ShsAt.write {H : Hp} {c : Addr} {o : HO} {xs : List V} (hc : H c = some (.lst xs)) : ∀ {as : List Addr} {S : List (List Pc)}, ShsAt H as S → (∀ a ∈ as, a ≠ c) → ShsAt (upd H c o) as S
  | _, _, .nil, _ => .nil
  | _, _, .cons h t, n => .cons (h.write (n _ (by simp)) hc) (ShsAt.write hc t fun a m => n a (by simp [m]))
/-! as data -/
def pcD (r : Pc) : PyData := .tuple [.int r.1, .int r.2]
def shD (ps : List Pc) : PyData := .list (ps.map pcD)
def ssD (S : List (List Pc)) : PyData := .list (S.map shD)
theorem pc_dat {K : PySem.W.Frag} {H : Hp} {v : V} {r : Pc} (h : PcAt H v r) : DatR K H (pcD r) v := by
  obtain ⟨p, rfl, e⟩ := h
  exact ⟨p, _, rfl, SqT.of e, _, _, rfl, rfl, _, _, rfl, rfl, rfl⟩
theorem pcs_dat {K : PySem.W.Frag} {H : Hp} : ∀ {vs : List V} {rs : List Pc}, PcsAt H vs rs → DatA K H (rs.map pcD) vs
  | _, _, .nil => rfl
  | _, _, .cons h t => ⟨_, _, rfl, pc_dat h, pcs_dat t⟩
theorem sh_dat {K : PySem.W.Frag} {H : Hp} {a : Addr} {ps : List Pc} (h : ShAt H a ps) : DatR K H (shD ps) (.ref a) := let ⟨xs, e, q⟩ := h; ⟨a, xs, rfl, SqL.of e, pcs_dat q⟩
theorem shs_dat {K : PySem.W.Frag} {H : Hp} : ∀ {as : List Addr} {S : List (List Pc)}, ShsAt H as S → DatA K H (S.map shD) (as.map V.ref)
  | _, _, .nil => rfl
  | _, _, .cons h t => ⟨_, _, rfl, sh_dat h, shs_dat t⟩
theorem ss_dat {K : PySem.W.Frag} {H : Hp} {p : Addr} {as : List Addr} {S : List (List Pc)} (h : SsAt H p as S) : DatR K H (ssD S) (.ref p) := ⟨p, _, rfl, SqL.of h.1, shs_dat h.2⟩
theorem pcs_can : ∀ ps : List Pc, PyData.canLayAll0 (ps.map pcD) = true
  | [] => rfl
  | r :: t => by
    show (PyData.canLay0 (pcD r) && PyData.canLayAll0 (t.map pcD)) = true
    rw [pcs_can t, Bool.and_true]; rfl
theorem shD_can (ps : List Pc) : (shD ps).canLay0 = true := pcs_can ps
theorem shs_can : ∀ S : List (List Pc), PyData.canLayAll0 (S.map shD) = true
  | [] => rfl
  | r :: t => by
    show (PyData.canLay0 (shD r) && PyData.canLayAll0 (t.map shD)) = true
    rw [shs_can t, Bool.and_true]; exact shD_can r
theorem ssD_can (S : List (List Pc)) : (ssD S).canLay0 = true := shs_can S
theorem pcs_depth : ∀ l : List Pc, PyData.depthAll (l.map pcD) ≤ 4
  | [] => by simp [PyData.depthAll]
  | r :: t => by
    have ih := pcs_depth t
    simp only [List.map_cons, PyData.depthAll, pcD, PyData.depth] at ih ⊢
    omega
theorem shD_depth (ps : List Pc) : (shD ps).depth ≤ 6 := by
  have h := pcs_depth ps
  simp only [shD, PyData.depth]
  omega
theorem shs_depth : ∀ l : List (List Pc), PyData.depthAll (l.map shD) ≤ 6
  | [] => by simp [PyData.depthAll]
  | r :: t => by
    have ih := shs_depth t
    have h := shD_depth r
    simp only [List.map_cons, PyData.depthAll] at ih ⊢
    omega
theorem ssD_depth (S : List (List Pc)) : (ssD S).depth ≤ 8 := by
  have h := shs_depth S
  simp only [ssD, PyData.depth]
  omega
theorem eqv_pc (r q : Pc) : PyData.eqv (pcD r) (pcD q) = decide (r = q) := by
  obtain ⟨g, l⟩ := r
  obtain ⟨g', l'⟩ := q
  simp only [pcD, PyData.eqv, PyData.eqvAll, Bool.and_true]
  by_cases h1 : g = g' <;> by_cases h2 : l = l' <;> simp [h1, h2]
theorem eqvAll_map {α : Type} [DecidableEq α] {d : α → PyData} (hd : ∀ a b, PyData.eqv (d a) (d b) = decide (a = b)) : ∀ (a b : List α), PyData.eqvAll (a.map d) (b.map d) = decide (a = b) := by
  intro a b
  induction a generalizing b with
  | nil => cases b <;> simp [PyData.eqvAll]
  | cons r t ih =>
    cases b with
    | nil => simp [PyData.eqvAll]
    | cons q u =>
      simp only [List.map_cons, PyData.eqvAll, ih u, hd r q]
      by_cases h1 : r = q <;> by_cases h2 : t = u <;> simp [h1, h2]
theorem eqv_sh (a b : List Pc) : PyData.eqv (shD a) (shD b) = decide (a = b) := eqvAll_map eqv_pc a b
theorem eqv_ss (a b : List (List Pc)) : PyData.eqv (ssD a) (ssD b) = decide (a = b) := eqvAll_map eqv_sh a b
/-- pieces with length -/
def wl (ps : List Pc) : List Pc := ps.filter fun p => decide (p.1 < p.2)
end L2
theorem Bk.IsHalf.uniq {rs : List Bk.Rw} {p q : Int} (a : Bk.IsHalf rs p) (b : Bk.IsHalf rs q) : p = q := by
  rcases Int.lt_trichotomy p q with h | h | h
  · exact (b.no p a.nn h a.at_).elim
  · exact h
  · exact (a.no q b.nn h b.at_).elim

set_option Elab.async false
set_option linter.all false
set_option maxRecDepth 100000
set_option maxHeartbeats 4000000
namespace K9
open PySem L2
open Bk (Alt alt_snoc)
def top (i : Nat) : Stmt := PySem.Challenge.pw_bankshare_k09_dealt_by_halves.main.body.getD i (.Pass ⟨0, 0, 0, 0⟩)
/-- where the law's own defs begin -/
abbrev o : Nat := 34
abbrev sCell : Stmt := top o
abbrev sLWh : Stmt := top (o + 1)
abbrev sLong : Stmt := top (o + 2)
abbrev sLBank : Stmt := top (o + 3)
abbrev sEven : Stmt := top (o + 4)
abbrev sShares : Stmt := top (o + 5)
abbrev sFar : Stmt := top (o + 6)
abbrev sPart : Stmt := top (o + 7)
abbrev sLaw : Stmt := top (o + 8)
/-- the names of Python's own that the law's defs ask for -/
structure Pl (mg : Str → Option Value) : Prop where
  isi : mg "isinstance" = none
  int : mg "int" = none
  bool : mg "bool" = none
  list : mg "list" = none
  tuple : mg "tuple" = none
  len : mg "len" = none
  sum : mg "sum" = none
  max : mg "max" = none
  min : mg "min" = none
  range : mg "range" = none
section
variable {K : PySem.W.Frag}
theorem kit_int_int : PySem.W.kitOne K (.type "int") (.type "int") = some true := rfl
theorem kit_int_bool : PySem.W.kitOne K (.type "int") (.type "bool") = some false := by kernel_rfl
end
theorem take_snoc {α : Type} {l : List α} {i : Nat} {x : α} (h : l[i]? = some x) : l.take (i + 1) = l.take i ++ [x] := by
  rw [List.take_add_one, h]; rfl
/-- the cell at k, 0 where there is none -/
def cellN (ns : List Int) (k : Int) : Int := ns.getD k.toNat 0
theorem two {i : Int} (h0 : 0 ≤ i) (h1 : i < 2) : atI [V.str "dry", V.str "wet"] i = some (.str (gs (decide (i = 0)))) := by
  have : i = 0 ∨ i = 1 := by omega
  rcases this with rfl | rfl
  · rfl
  · rfl
theorem four {a b c d i : Int} (ha : 0 < a) (hb : 0 < b) (hc : 0 < c) (hd : 0 < d) (h0 : 0 ≤ i) (h1 : i < 4) : ∃ m, 0 < m ∧ atI [V.int a, V.int b, V.int c, V.int d] i = some (.int m) := by
  have : i = 0 ∨ i = 1 ∨ i = 2 ∨ i = 3 := by omega
  rcases this with rfl | rfl | rfl | rfl
  · exact ⟨a, ha, rfl⟩
  · exact ⟨b, hb, rfl⟩
  · exact ⟨c, hc, rfl⟩
  · exact ⟨d, hd, rfl⟩
theorem rows_set {H : Hp} {v : V} {r : Bk.Rw} (q : RowAt H v r) : ∀ {vs : List V} {rs : List Bk.Rw} (k : Nat), RowsAt H vs rs → RowsAt H (vs.set k v) (rs.set k r)
  | _, _, _, .nil => .nil
  | _, _, 0, .cons _ t => .cons q t
  | _, _, k + 1, .cons h t => .cons h (rows_set q k t)
section
variable {P : Program} {w : World} {K : PySem.W.Frag} {mg : Str → Option Value} {base : Heap}
def spCell (K : PySem.W.Frag) : Sp := fun vs H Q _ => ∃ (a : Addr) (ns : List Int) (k : Int), vs = [.ref a, .int k] ∧ SqL K H a (ns.map V.int) ∧ 0 ≤ k ∧ Q (.int (cellN ns k)) H
theorem scCe : FnScope ["_law_script", "_law_k"] ["_law_script", "_law_k"] (defScope sCell) := ⟨rfl, rfl, rfl, by decide +kernel, rfl, by decide +kernel, by decide +kernel⟩
seal L2.PSs L2.PS L2.PE L2.PA L2.PT L2.PW
theorem ok_cell {f : Addr} {fd : FuncData} (F : FunG K "_law_cell_at" "_law_cell_at" sCell f fd .none) (T : Pl mg) : FnOk P w K mg base CX0 1 f fd ["_law_script", "_law_k"] (spCell K) := by
  refine F.ok scCe (fun vs H Q E h => ?_) (fun cdv A outer s H vs Q E hr h => ?_)
  · obtain ⟨v, r, pl, rfl, _⟩ := h; rfl
  · obtain ⟨a, ns, k, rfl, hS, h0, q⟩ := h
    refine ⟨_, pss_cons (ps_if (pt_cmpR op_lt (pv 1) (pe_callB call_len_seq rfl T.len PySem.boot_len (pa_cons (pv 0) pa_nil)) (nomark _)) (pss_one (ps_ret (pe_ix ix_list (pv 0) (pv 1) (fun _ _ => rfl)))) pss_nil) (pss_one (ps_ret pe_int)), ?_⟩
    refine ⟨_, rfl, _, rfl, a, _, rfl, .inl hS, _, _, rfl, rfl, _, rfl, ?_⟩
    refine ite2 (fun z => ?_) (fun z => ?_)
    · have z' : k < ((ns.map V.int).length : Int) := of_decide_eq_true z
      rw [List.length_map] at z'
      have hk : k.toNat < ns.length := by omega
      refine ⟨_, rfl, _, rfl, a, _, k, .int (cellN ns k), rfl, rfl, hS, ?_, q⟩
      have e : k = ((k.toNat : Nat) : Int) := by omega
      have h := atI_nat (xs := ns.map V.int) (j := k.toNat) (v := .int (cellN ns k)) (by
        rw [List.getElem?_map, List.getElem?_eq_getElem hk]
        simp [cellN, hk])
      rw [← e] at h
      exact h
    · have z' : ¬ k < ((ns.map V.int).length : Int) := fun y => z (decide_eq_true y)
      rw [List.length_map] at z'
      have : cellN ns k = 0 := by
        unfold cellN
        rw [List.getD_eq_getElem?_getD, List.getElem?_eq_none (by omega)]
        rfl
      rw [this] at q
      exact q
theorem scLW : FnScope ["_law_found"] ["_law_found"] (defScope sLWh) := ⟨rfl, rfl, rfl, by decide +kernel, rfl, by decide +kernel, by decide +kernel⟩
def spLWh : Sp := fun vs H Q _ => ∃ i, vs = [.int i] ∧ Q (.bl true) H
theorem ok_lwh {f : Addr} {fd : FuncData} (F : FunG K "_law_whole" "_law_whole" sLWh f fd .none) (T : Pl mg) : FnOk P w K mg base CX0 1 f fd ["_law_found"] spLWh := by
  refine F.ok scLW (fun vs H Q E h => ?_) (fun cdv A outer s H vs Q E hr h => ?_)
  · obtain ⟨g, rfl, _⟩ := h; rfl
  · obtain ⟨i, rfl, k⟩ := h
    refine ⟨_, pss_one (ps_ret (pe_and (pe_callB call_isi rfl T.isi PyProof.Rows.boot_isinstance (pa_cons (pv 0) (pa_cons (pe_bltn (v := .ty "int") rfl T.int PyProof.Rows.boot_int rfl) pa_nil)))
      (pe_one (pe_not (pe_callB call_isi rfl T.isi PyProof.Rows.boot_isinstance (pa_cons (pv 0) (pa_cons (pe_bltn (v := .ty "bool") rfl T.bool PyProof.Rows.boot_bool rfl) pa_nil))))))), ?_⟩
    refine ⟨_, rfl, _, _, _, rfl, .of (.int _), .inl ⟨rfl, true, kit_int_int, true, rfl, iteT ?_⟩⟩
    exact ⟨_, rfl, _, _, _, rfl, .of (.int _), .inl ⟨rfl, false, kit_int_bool, false, rfl, k⟩⟩
end
end K9

set_option Elab.async false
set_option linter.all false
set_option maxRecDepth 100000
set_option maxHeartbeats 4000000
namespace K9
open PySem L2
open Bk (Alt alt_snoc)
section
variable {P : Program} {w : World} {K : PySem.W.Frag} {mg : Str → Option Value} {base : Heap}
seal L2.PSs L2.PS L2.PE L2.PA L2.PT L2.PW
/-! _law_long -/
def spLong : Sp := fun vs H Q _ => ∃ c, vs = [.int c] ∧ ∀ (l : Int) H', Same H H' → 0 < l → Q (.int l) H'
theorem scLo : FnScope ["_law_cell", "_law_most"] ["_law_cell"] (defScope sLong) := ⟨rfl, rfl, rfl, by decide +kernel, rfl, by decide +kernel, by decide +kernel⟩
theorem ok_long {f : Addr} {fd : FuncData} (F : FunG K "_law_long" "_law_long" sLong f fd .none) (T : Pl mg) : FnOk P w K mg base CX0 1 f fd ["_law_cell"] spLong := by
  refine F.ok scLo (fun vs H Q E h => ?_) (fun cdv A outer s H vs Q E hr h => ?_)
  · obtain ⟨g, rfl, _⟩ := h; rfl
  · obtain ⟨c, rfl, k⟩ := h
    refine ⟨_, pss_cons (ps_set (i := 1) scLo.nd rfl (Or.inl rfl) (pe_ix ix_list (pe_lst (pa_cons pe_int (pa_cons pe_int (pa_cons (pe_op op_pow pe_int pe_int) (pa_cons (pe_op op_pow pe_int pe_int) pa_nil))))) (pe_op op_mod (pv 0) pe_int) (fun _ _ => rfl)))
      (pss_one (ps_ret (pe_op op_add pe_int (pe_op op_mod (pe_op op_fdiv (pv 0) pe_int) (pv 1))))), ?_⟩
    refine ⟨_, _, rfl, rfl, ⟨by decide, by decide, by decide⟩, _, _, rfl, rfl, ⟨by decide, by decide, by decide⟩, by show 4 ≤ sizeLine; decide, fun pb hpb => ?_⟩
    obtain ⟨m, hm, em⟩ := four (a := 3) (b := 12) (c := 10 ^ (18 : Int).toNat) (d := 10 ^ (59 : Int).toNat) (i := c % 4) (by decide) (by decide) (by decide) (by decide) (Int.emod_nonneg _ (by decide)) (Int.emod_lt_of_pos _ (by decide))
    refine ⟨_, rfl, _, _, rfl, rfl, (by decide : (0 : Int) < 4), pb, _, _, .int m, rfl, rfl, SqL.of upd_same, em, ?_⟩
    refine ⟨_, rfl, _, _, rfl, rfl, ⟨by decide, by decide⟩, _, rfl, _, _, rfl, rfl, hm, _, _, rfl, rfl, k _ _ (same_new hpb) ?_⟩
    have := Int.emod_nonneg (c / 4) (show m ≠ 0 by omega)
    omega
/-! _law_bank -/
def spLBank (K : PySem.W.Frag) : Sp := fun vs H Q _ => ∃ (a : Addr) (ns : List Int), vs = [.ref a] ∧ SqL K H a (ns.map V.int) ∧ ns.length ≤ 63 ∧
  ∀ p ys rs H', Same H H' → H p = none → H' p = some (.lst ys) → RowsAt H' ys rs → (∀ r ∈ rs, 0 < r.2) → Alt rs → rs.length ≤ 63 → Q (.ref p) H'
theorem scLB : FnScope ["_law_script", "_law_turn", "_law_rows", "_law_cell"] ["_law_script"] (defScope sLBank) := ⟨rfl, rfl, rfl, by decide +kernel, rfl, by decide +kernel, by decide +kernel⟩
theorem ok_lbank {f f1 f2 : Addr} {fd fd1 fd2 : FuncData} (F : FunG K "_law_bank" "_law_bank" sLBank f fd .none) (T : Pl mg) (D1 : Df K mg "_law_cell_at" sCell ["_law_script", "_law_k"] f1 fd1) (D2 : Df K mg "_law_long" sLong ["_law_cell"] f2 fd2) : FnOk P w K mg base CX0 2 f fd ["_law_script"] (spLBank K) := by
  have G1 : FnOk P w K mg base CX0 1 f1 fd1 ["_law_script", "_law_k"] (spCell K) := ok_cell D1.fn T
  have G2 : FnOk P w K mg base CX0 1 f2 fd2 ["_law_cell"] spLong := ok_long D2.fn T
  refine F.ok scLB (fun vs H Q E h => ?_) (fun cdv A outer s H vs Q E hr h => ?_)
  · obtain ⟨v, r, rfl, _⟩ := h; rfl
  · obtain ⟨a, ns, rfl, hS, hl, q⟩ := h
    refine ⟨_, pss_cons (ps_set (i := 1) scLB.nd rfl (Or.inl rfl) (pe_op op_mod (pe_call G1 hr rfl D1.gl D1.fn.kp D1.bd .nil pass0 (pa_cons (pv 0) (pa_cons pe_int pa_nil))) pe_int))
      (pss_cons (ps_set (i := 2) scLB.nd rfl (Or.inl rfl) (pe_lst pa_nil))
      (pss_cons (ps_for PassesOwn.never rfl (pi_list (pe_slice sl_list (pv 0) (po_some pe_int) (po_some pe_int))) (pg_name (i := 3) scLB.nd rfl (Or.inl rfl))
        (pss_one (ps_expr (pe_bm PySem.F.plainAttrs_list PySem.F.slot_list_append PySem.F.type_list_append mt_append (pv 2) (pa_cons (pe_tup (pa_cons (pe_ix ix_list (pe_lst (pa_cons pe_str (pa_cons pe_str pa_nil))) (pe_op op_mod (pe_op op_add (pe_callB call_len_seq rfl T.len PySem.boot_len (pa_cons (pv 2) pa_nil)) (pv 1)) pe_int) (fun _ _ => rfl))
          (pa_cons (pe_call G2 hr rfl D2.gl D2.fn.kp D2.bd .nil pass0 (pa_cons (pv 3) pa_nil)) pa_nil))) pa_nil)))))
      (pss_one (ps_ret (pv 2))))), ?_⟩
    refine ⟨_, rfl, a, ns, 0, rfl, hS, by decide, _, _, rfl, rfl, (by decide : (0 : Int) < 2), ?_⟩
    dsimp only
    generalize cellN ns 0 % 2 = t0
    refine ⟨Nat.zero_le _, fun p hp => ?_⟩
    have s2 := same_new (o := .lst []) hp
    refine ⟨_, rfl, _, rfl, _, rfl, a, _, rfl, s2.seq hS, fun pc hpc => ?_⟩
    obtain ⟨cs, hcs⟩ : ∃ cs : List Int, cutV (ns.map V.int) (some 1) (some 41) = cs.map V.int := by
      unfold cutV
      exact ⟨(ns.drop _).take _, by rw [List.map_take, List.map_drop]⟩
    have lcs : cs.length ≤ 63 := by
      have h1 := cutV_length (ns.map V.int) (some 1) (some 41)
      rw [hcs, List.length_map, List.length_map] at h1
      omega
    have npc : pc ≠ p := fun z => by rw [z, upd_same] at hpc; cases hpc
    rw [hcs]
    have s3 := s2.trans (same_new (o := .lst (cs.map V.int)) hpc)
    have hpc3 : upd (upd H p (.lst [])) pc (.lst (cs.map V.int)) pc = some (.lst (cs.map V.int)) := upd_same
    have hp3 := (same_new (o := .lst (cs.map V.int)) hpc) _ _ (upd_same (a := p) (o := .lst []))
    generalize upd (upd H p (.lst [])) pc (.lst (cs.map V.int)) = H3 at s3 hpc3 hp3 ⊢
    refine ⟨pc, rfl, ⟨_, SqL.of hpc3⟩, for_list (K := K) (a := pc) (xs := cs.map V.int) (fun i σ H2 => ∃ ys rs z3, σ = [some (.ref a), some (.int t0), some (.ref p), z3] ∧ Same H H2 ∧ H2 p = some (.lst ys) ∧ H2 pc = some (.lst (cs.map V.int)) ∧ RowsAt H2 ys rs ∧ rs.length = i ∧ (∀ r ∈ rs, 0 < r.2) ∧ Alt rs ∧
        (∀ b, rs.getLast? = some b → b.1 = decide (((rs.length : Int) - 1 + t0) % 2 = 0)))
      ⟨[], [], none, rfl, s3, hp3, hpc3, .nil, rfl, by simp, True.intro, by simp⟩ (fun i σ H2 _ ⟨_, _, _, _, _, _, g, _⟩ => SqL.of g) ?_ ?_⟩
    · rintro i x σ H2 hx ⟨ys, rs, z3, rfl, sm, hb, hc, hy, hri, hpos, halt, hlast⟩
      rw [List.getElem?_map] at hx
      obtain ⟨c, hcx, rfl⟩ := Option.map_eq_some_iff.mp hx
      have hi : i < cs.length := (List.getElem?_eq_some_iff.mp hcx).1
      have ly := Paired.length hy
      refine ⟨_, rfl, .inl ⟨rfl, _, SqL.of hb⟩, by show 2 ≤ sizeLine; decide, fun pd hpd => ?_⟩
      have t1 := same_new (o := .lst [V.str "dry", .str "wet"]) hpd
      refine ⟨_, rfl, p, ys, rfl, .inl (SqL.of (t1 _ _ hb)), _, rfl, _, _, rfl, rfl, _, _, rfl, rfl, (by decide : (0 : Int) < 2), ?_⟩
      refine ⟨pd, _, _, _, rfl, rfl, SqL.of upd_same, two (Int.emod_nonneg _ (by decide)) (Int.emod_lt_of_pos _ (by decide)), ?_⟩
      refine ⟨_, rfl, c, rfl, fun l H4 s4 hl0 => ?_⟩
      have s24 := t1.trans s4
      refine ⟨by show 2 ≤ sizeLine; decide, fun Z hZ => ?_⟩
      have hb2 := s24 _ _ hb
      have hc2 := s24 _ _ hc
      have npZ : p ≠ Z := fun w => by rw [← w, hb2] at hZ; cases hZ
      refine ⟨p, ys, _, rfl, rfl, by rw [upd_ne npZ]; exact hb2, Nat.lt_of_le_of_lt (m := 1000) (by omega) (by decide), ?_⟩
      have tps : ∀ xs : List V, Tps H4 (upd (upd H4 Z (.tup xs)) p (.lst (ys ++ [.ref Z]))) := fun xs b us e => by
        rw [upd_ne (fun z => by rw [z, hb2] at e; cases e), upd_ne (ne_of_none e hZ)]; exact e
      have eg : (((ys.length : Nat) : Int) + t0) = (rs.length : Int) + t0 := by rw [ly]
      refine ⟨ys ++ [.ref Z], rs ++ [(decide ((((ys.length : Nat) : Int) + t0) % 2 = 0), l)], _, rfl, ((sm.trans s24).trans (same_new hZ)).write hp, upd_same, ?_, ?_, ?_, ?_, ?_, ?_⟩
      · rw [upd_ne npc, upd_ne (ne_of_none hc2 hZ)]; exact hc2
      · exact ((hy.mono s24.tps).mono (tps _)).snoc ⟨Z, rfl, by rw [upd_ne npZ.symm, upd_same]⟩
      · simp [hri]
      · intro r hr
        rcases List.mem_append.mp hr with h | h
        · exact hpos r h
        · rw [List.mem_singleton.mp h]; exact hl0
      · refine alt_snoc halt fun b hb => ?_
        rw [hlast b hb]
        show ¬ (decide (((rs.length : Int) - 1 + t0) % 2 = 0) = decide ((((ys.length : Nat) : Int) + t0) % 2 = 0))
        rw [decide_eq_decide, eg]
        omega
      · intro b hb
        rw [List.getLast?_append] at hb
        have hb' : b = (decide ((((ys.length : Nat) : Int) + t0) % 2 = 0), l) := by simpa using hb.symm
        rw [hb']
        show decide ((((ys.length : Nat) : Int) + t0) % 2 = 0) = _
        rw [eg, List.length_append, List.length_singleton]
        congr 2
        have : (rs.length : Int) = ((rs.length + 1 : Nat) : Int) - 1 := by omega
        rw [← this]
    · rintro σ H2 ⟨ys, rs, z3, rfl, sm, hb, _, hy, hri, hpos, halt, _⟩
      rw [List.length_map] at hri
      exact ⟨_, rfl, q p ys rs H2 sm hp hb hy hpos halt (by omega)⟩
/-! _law_even -/
end
end K9

set_option Elab.async false
set_option linter.all false
set_option maxRecDepth 100000
set_option maxHeartbeats 4000000
namespace K9
open PySem L2
open Bk (Alt alt_snoc)
theorem over_up (s n : Int) : (s + (n - s % n)) % n = 0 := by
  have h := Int.emod_add_mul_ediv s n
  have e : s + (n - s % n) = n * (s / n + 1) := by rw [Int.mul_add]; omega
  rw [e]
  exact Int.mul_emod_right _ _
section
variable {P : Program} {w : World} {K : PySem.W.Frag} {mg : Str → Option Value} {base : Heap}
seal L2.PSs L2.PS L2.PE L2.PA L2.PT L2.PW
def spEven (K : PySem.W.Frag) : Sp := fun vs H Q _ => ∃ a xs rs N c, vs = [.ref a, .int N, .int c] ∧ 0 < N ∧ SqL K H a xs ∧ RowsAt H xs rs ∧ (∀ r ∈ rs, 0 < r.2) ∧ Alt rs ∧ rs.length ≤ 63 ∧
  ∀ p ys rs' H', Same H H' → H p = none → H' p = some (.lst ys) → RowsAt H' ys rs' → (∀ r ∈ rs', 0 < r.2) → Alt rs' → rs'.length ≤ 63 → (∀ g, Bk.sm g rs' % N = 0) → Q (.ref p) H'
theorem scEv : FnScope ["_law_rows", "_law_heirs", "_law_cell", "_law_made", "_law_ground", "_law_places", "_law_over", "_law_at"] ["_law_rows", "_law_heirs", "_law_cell"] (defScope sEven) := ⟨rfl, rfl, rfl, by decide +kernel, rfl, by decide +kernel, by decide +kernel⟩
def val (rs : List Bk.Rw) (j : Nat) : Int := ((rs[j]?).getD (true, 0)).2
theorem val_of {rs : List Bk.Rw} {j : Nat} {r : Bk.Rw} (h : rs[j]? = some r) : val rs j = r.2 := by unfold val; rw [h]; rfl
theorem ok_even {f : Addr} {fd : FuncData} (F : FunG K "_law_evened" "_law_evened" sEven f fd .none) (T : Pl mg) : FnOk P w K mg base CX0 1 f fd ["_law_rows", "_law_heirs", "_law_cell"] (spEven K) := by
  refine F.ok scEv (fun vs H Q E h => ?_) (fun cdv A outer s H vs Q E hr h => ?_)
  · obtain ⟨_, _, _, _, _, rfl, _⟩ := h; rfl
  · obtain ⟨a, xs, rs, N, c, rfl, hN, hS, hR, hpos, halt, hl, q⟩ := h
    refine ⟨_, pss_cons (ps_set (i := 3) scEv.nd rfl (Or.inl rfl) (pe_callTy call_list_of rfl T.list PyProof.Rows.boot_list (pa_cons (pv 0) pa_nil)))
      (pss_cons (ps_for PassesOwn.never rfl (pi_list (pe_lst (pa_cons pe_str (pa_cons pe_str pa_nil)))) (pg_name (i := 4) scEv.nd rfl (Or.inr rfl))
        (pss_cons (ps_comp (i := 5) (Nc := ["_law_k", "_law_ground", "_law_rows"]) (fv := [none, some 4, some 0]) ⟨rfl, by decide +kernel, rfl, by decide +kernel, ⟨rfl, rfl, trivial⟩, rfl, rfl, ⟨⟨rfl, rfl, rfl, rfl⟩, ⟨rfl, rfl, rfl, rfl⟩, trivial⟩⟩ scEv.nd rfl (Or.inl rfl) rfl
            (pi_range1 rfl T.range (pa_cons (pe_callB call_len_seq rfl T.len PySem.boot_len (pa_cons (pv 0) pa_nil)) pa_nil))
            (fun _ _ _ _ _ => pg_name (i := 0) (show (["_law_k", "_law_ground", "_law_rows"] : List Str).Nodup by decide +kernel) rfl (Or.inl rfl))
            (fun _ _ _ _ _ => pif_one (pt_cmpR op_eq (pe_ix (ix_tupK (K := K) rfl) (pe_ix (ix_listK (K := K) rfl) (pv 2) (pv 0) (fun _ _ => rfl)) pe_int (fun _ _ => rfl)) (pv 1) (nomark _))) (fun _ _ _ _ _ => pv 0))
        (pss_cons (ps_set (i := 6) scEv.nd rfl (Or.inl rfl) (pe_op op_mod (pe_callB (call_sum rfl) rfl T.sum PyProof.Rows.boot_sum (pa_cons (pe_comp (Nc := ["_law_k", "_law_rows"]) (fv := [none, some 0]) ⟨rfl, by decide +kernel, rfl, by decide +kernel, ⟨rfl, trivial⟩, rfl, rfl, ⟨⟨rfl, rfl, rfl, rfl⟩, trivial⟩⟩ rfl (pi_list (pv 5))
            (fun _ _ _ _ _ => pg_name (i := 0) (show (["_law_k", "_law_rows"] : List Str).Nodup by decide +kernel) rfl (Or.inl rfl)) (fun _ _ _ _ _ => pif_nil)
            (fun _ _ _ _ _ => pe_ix (ix_tupK (K := K) rfl) (pe_ix (ix_listK (K := K) rfl) (pv 1) (pv 0) (fun _ _ => rfl)) pe_int (fun _ _ => rfl))) pa_nil)) (pv 1)))
        (pss_one (ps_if (pt_cmpR op_gt (pv 6) pe_int (nomark _))
          (pss_cons (ps_set (i := 7) scEv.nd rfl (Or.inl rfl) (pe_ix ix_list (pv 5) (pe_op op_mod (pv 2) (pe_callB call_len_seq rfl T.len PySem.boot_len (pa_cons (pv 5) pa_nil))) (fun _ _ => rfl)))
          (pss_one (ps_asg (pe_tup (pa_cons (pv 4) (pa_cons (pe_op op_sub (pe_op op_add (pe_ix ix_tup (pe_ix ix_list (pv 3) (pv 7) (fun _ _ => rfl)) pe_int (fun _ _ => rfl)) (pv 1)) (pv 6)) pa_nil))) (pg_sub (pv 3) (pv 7) set_list)))) pss_nil)))))
      (pss_one (ps_ret (pv 3)))), ?_⟩
    have hlen := Paired.length hR
    refine ⟨_, rfl, a, xs, rfl, .inl hS, fun p hp0 => ?_⟩
    have s4 := same_new (o := .lst xs) hp0
    have hb4 : upd H p (.lst xs) p = some (.lst xs) := upd_same
    have hy4 : RowsAt (upd H p (.lst xs)) xs rs := hR.mono s4.tps
    generalize upd H p (.lst xs) = H4 at s4 hb4 hy4 ⊢
    refine ⟨by show 2 ≤ sizeLine; decide, fun pg hpg => ?_⟩
    have s5 := s4.trans (same_new (o := .lst [V.str "dry", .str "wet"]) hpg)
    have hb5 := (same_new (o := .lst [V.str "dry", .str "wet"]) hpg) _ _ hb4
    have hy5 : RowsAt (upd H4 pg (.lst [V.str "dry", .str "wet"])) xs rs := hy4.mono (same_new hpg).tps
    have hg5 : upd H4 pg (.lst [V.str "dry", .str "wet"]) pg = some (.lst [V.str "dry", .str "wet"]) := upd_same
    have npg : pg ≠ p := fun z => by rw [z, hb4] at hpg; cases hpg
    generalize upd H4 pg (.lst [V.str "dry", .str "wet"]) = H5 at s5 hb5 hy5 hg5 ⊢
    refine ⟨pg, rfl, ⟨_, SqL.of hg5⟩, for_list (K := K) (a := pg) (xs := [V.str "dry", .str "wet"]) (fun i σ H6 => ∃ ys ms z3 z4 zo z5, σ = [some (.ref a), some (.int N), some (.int c), some (.ref p), z3, z4, zo, z5] ∧ Same H H6 ∧ H6 p = some (.lst ys) ∧ H6 pg = some (.lst [V.str "dry", .str "wet"]) ∧ RowsAt H6 ys ms ∧ ms.length = rs.length ∧ (∀ r ∈ ms, 0 < r.2) ∧ Alt ms ∧
        (∀ j : Nat, (ms[j]?).map (·.1) = (rs[j]?).map (·.1)) ∧ (i = 0 → Bk.sm true ms = Bk.sm true rs) ∧ (1 ≤ i → Bk.sm true ms % N = 0) ∧ (i ≤ 1 → Bk.sm false ms = Bk.sm false rs) ∧ (2 ≤ i → Bk.sm false ms % N = 0))
      ⟨xs, rs, none, none, none, none, rfl, s5, hb5, hg5, hy5, rfl, hpos, halt, fun _ => rfl, fun _ => rfl, fun h => by omega, fun _ => rfl, fun h => by omega⟩ (fun i σ H2 _ ⟨_, _, _, _, _, _, _, _, _, g, _⟩ => SqL.of g) ?_ ?_⟩
    · rintro i x σ H6 hx ⟨ys, ms, z3, z4, zo, z5, rfl, s6, hb6, hg6, hy6, hl6, hpos6, halt6, hsame, i0, i1, i2, i3⟩
      -- the ground of this turn
      obtain ⟨g, rfl, hgi, hsm⟩ : ∃ g, x = .str (gs g) ∧ (g = true ↔ i = 0) ∧ Bk.sm g ms = Bk.sm g rs := by
        match i, hx with
        | 0, hx => exact ⟨true, (show x = V.str "dry" by simpa using hx.symm), by simp, i0 rfl⟩
        | 1, hx => exact ⟨false, (show x = V.str "wet" by simpa using hx.symm), by simp, i2 (by decide)⟩
        | i + 2, hx => simp at hx
      have hi2 : i < 2 := by
        have := (List.getElem?_eq_some_iff.mp hx).1
        simpa using this
      have gfin : ∀ ms' : List Bk.Rw, Bk.sm g ms' % N = 0 → (∀ g', g' ≠ g → Bk.sm g' ms' = Bk.sm g' ms) → (i + 1 = 0 → Bk.sm true ms' = Bk.sm true rs) ∧ (1 ≤ i + 1 → Bk.sm true ms' % N = 0) ∧ (i + 1 ≤ 1 → Bk.sm false ms' = Bk.sm false rs) ∧ (2 ≤ i + 1 → Bk.sm false ms' % N = 0) := fun ms' e1 e2 => by
        cases g with
        | true =>
          have hi : i = 0 := hgi.mp rfl
          refine ⟨fun h => by omega, fun _ => e1, fun _ => by rw [e2 false (by decide)]; exact i2 (by omega), fun h => by omega⟩
        | false =>
          have hi : i ≠ 0 := fun h => by have := hgi.mpr h; cases this
          refine ⟨fun h => by omega, fun _ => by rw [e2 true (by decide)]; exact i1 (by omega), fun h => by omega, fun _ => e1⟩
      -- the places of it
      have hS6 := s6.seq hS
      have hR6 : RowsAt H6 xs rs := hR.mono s6.tps
      refine ⟨_, rfl, a, xs, rfl, .inl hS6, _, rfl, by omega, by omega, fun pp hpp => ?_⟩
      refine comp_range (lo := 0) (n := ((xs.length : Nat) : Int).toNat) (fun j us H7 => Same H6 H7 ∧ H7 pp = some (.lst us) ∧ ∃ js : List Nat, us = js.map (fun j => V.int ((j : Nat) : Int)) ∧ js.length ≤ j ∧ (∀ j ∈ js, ∃ r, rs[j]? = some r ∧ r.1 = g) ∧ (js.map (val rs)).sum = Bk.sm g (rs.take j))
        ⟨same_new hpp, upd_same, [], rfl, Nat.le_refl _, by simp, rfl⟩ (fun j us H7 h => h.2.1) ?_ ?_
      · rintro j us H7 hj ⟨sm, hu, js, rfl, hjl, hjs, hjsum⟩
        have hjx : j < xs.length := by omega
        have hxj : xs[j]? = some xs[j] := List.getElem?_eq_getElem hjx
        obtain ⟨r, hr1, ⟨qv, eqv, hqv⟩⟩ := hR6.get hxj
        have hqv7 := sm _ _ hqv
        have at1 : atI xs (0 + (j : Int)) = some (.ref qv) := by
          rw [show (0 : Int) + (j : Int) = ((j : Nat) : Int) by omega]
          refine atI_nat ?_
          rw [hxj, eqv]
        refine ⟨(Wk.refl _).set rfl, ?_⟩
        refine ⟨_, rfl, _, rfl, a, xs, _, _, rfl, rfl, sm.seq hS6, at1, qv, _, 0, _, rfl, rfl, SqT.of hqv7, rfl, _, rfl, rfl, _, rfl, ?_⟩
        refine ite2 (fun z => ?_) (fun z => ?_)
        · have z2 : r.1 = g := gs_inj.mp (V.str.inj (of_decide_eq_true z))
          refine ⟨_, rfl, hu, ?_, nx (by omega) ⟨sm.write hpp, upd_same, js ++ [j], ?_, by simp; omega, fun k hk => ?_, ?_⟩⟩
          · exact Nat.lt_of_le_of_lt (m := 1000) (by rw [List.length_map]; omega) (by decide)
          · simp
          · rcases List.mem_append.mp hk with y | y
            · exact hjs k y
            · rw [List.mem_singleton.mp y]; exact ⟨r, hr1, z2⟩
          · rw [take_snoc hr1, Bk.sm_append, List.map_append, List.sum_append, hjsum]
            simp [Bk.sm, z2, val_of hr1]
        · have z2 : ¬ r.1 = g := fun y => z (decide_eq_true (by rw [y]))
          refine nx (by omega) ⟨sm, hu, js, rfl, by omega, hjs, ?_⟩
          rw [take_snoc hr1, Bk.sm_append, hjsum]
          simp [Bk.sm, z2]
      rintro us H7 ⟨s7, hu, js, rfl, hjl, hjs, hjsum⟩
      have hjsum : (js.map (val rs)).sum = Bk.sm g rs := by
        rw [hjsum, show ((xs.length : Nat) : Int).toNat = rs.length by omega, List.take_length]
      have hS7 := s7.seq hS6
      have hR7 : RowsAt H7 xs rs := hR6.mono s7.tps
      -- their sum
      refine ⟨_, rfl, pp, rfl, ⟨_, SqL.of hu⟩, fun ps hps => ?_⟩
      refine comp_list (K := K) (a := pp) (xs := js.map (fun j => V.int ((j : Nat) : Int))) (fun j us H8 => Same H7 H8 ∧ H8 ps = some (.lst us) ∧ us = ((js.take j).map (val rs)).map V.int) ⟨same_new hps, upd_same, rfl⟩ (fun j us H8 h => ⟨h.1.seq (SqL.of hu), h.2.1⟩) ?_ ?_
      · rintro j x us H8 hj hx8 ⟨sm, hus, rfl⟩
        rw [List.getElem?_map] at hx8
        obtain ⟨n, hn, rfl⟩ := Option.map_eq_some_iff.mp hx8
        obtain ⟨r, hr1, _⟩ := hjs n (List.mem_of_getElem? hn)
        have hnl : n < rs.length := (List.getElem?_eq_some_iff.mp hr1).1
        have hxn : xs[n]? = some xs[n] := List.getElem?_eq_getElem (by omega)
        obtain ⟨r', hr1', ⟨qv, eqv, hqv⟩⟩ := hR7.get hxn
        have er : r' = r := Option.some.inj (hr1'.symm.trans hr1)
        subst er
        have at1 : atI xs ((n : Nat) : Int) = some (.ref qv) := atI_nat (by rw [hxn, eqv])
        refine ⟨(Wk.refl _).set rfl, yes ?_⟩
        refine ⟨_, rfl, _, rfl, a, xs, _, _, rfl, rfl, sm.seq hS7, at1, qv, _, 1, _, rfl, rfl, SqT.of (sm _ _ hqv), rfl, hus, ?_, nx hj ⟨sm.write hps, upd_same, ?_⟩⟩
        · refine Nat.lt_of_le_of_lt (m := 1000) ?_ (by decide)
          rw [List.length_map] at hj
          simp only [List.length_map, List.length_take]; omega
        · rw [take_snoc hn]; simp [val_of hr1]
      rintro us H8 ⟨s8, hus, rfl⟩
      refine ⟨ps, _, rfl, SqL.of hus, _, rfl, _, _, rfl, rfl, hN, ?_⟩
      refine ⟨_, rfl, _, _, rfl, rfl, _, rfl, ?_⟩
      dsimp only
      have ejs : ((js.take (js.map (fun j => V.int ((j : Nat) : Int))).length).map (val rs)).sum = Bk.sm g rs := by rw [List.length_map, List.take_length]; exact hjsum
      have s68 := s7.trans s8
      have hb8 := s68 _ _ hb6
      have hg8 := s68 _ _ hg6
      have hy8 : RowsAt H8 ys ms := hy6.mono s68.tps
      have ly8 := Paired.length hy8
      refine ite2 (fun z => ?_) (fun z => ?_)
      · have z1 : 0 < Bk.sm g rs % N := by
          have z2 := of_decide_eq_true z
          rw [ejs] at z2; exact z2
        have hj0 : js ≠ [] := fun e => by
          rw [e] at hjsum
          have : (0 : Int) = Bk.sm g rs := hjsum
          rw [← this, Int.zero_emod] at z1; omega
        have ljs : 0 < js.length := List.length_pos_iff.mpr hj0
        have hu8 := s8 _ _ hu
        obtain ⟨v, hv, ev⟩ := atI_in (L := js.map (fun j => V.int ((j : Nat) : Int))) (i := c % ((js.map (fun j => V.int ((j : Nat) : Int))).length : Int)) (Int.emod_nonneg _ (by rw [List.length_map]; omega)) (Int.emod_lt_of_pos _ (by rw [List.length_map]; omega))
        obtain ⟨n, hn, rfl⟩ := List.mem_map.mp hv
        obtain ⟨r, hr1, hrg⟩ := hjs n hn
        have hnl : n < rs.length := (List.getElem?_eq_some_iff.mp hr1).1
        refine ⟨_, rfl, _, rfl, _, rfl, pp, _, rfl, .inl (SqL.of hu8), _, _, rfl, rfl, by rw [List.length_map]; omega, pp, _, _, _, rfl, rfl, SqL.of hu8, ev, ?_⟩
        have hxn : ys[n]? = some ys[n] := List.getElem?_eq_getElem (by omega)
        obtain ⟨m, hm1, ⟨qv, eqv, hqv⟩⟩ := hy8.get hxn
        have hmg : m.1 = g := by
          have := hsame n
          rw [hm1, hr1] at this
          have e : m.1 = r.1 := by simpa using this
          rw [e, hrg]
        have at1 : atI ys ((n : Nat) : Int) = some (.ref qv) := atI_nat (by rw [hxn, eqv])
        refine ⟨_, rfl, _, rfl, _, rfl, p, ys, _, _, rfl, rfl, SqL.of hb8, at1, qv, _, 1, _, rfl, rfl, SqT.of hqv, rfl, _, rfl, _, _, rfl, rfl, _, rfl, _, _, rfl, rfl, by show 2 ≤ sizeLine; decide, fun Z hZ => ?_⟩
        dsimp only
        rw [ejs, Int.add_sub_assoc]
        have ho1 := Int.emod_lt_of_pos (Bk.sm g rs) hN
        generalize hdd : N - Bk.sm g rs % N = dd at *
        have npZ : p ≠ Z := fun w => by rw [← w, hb8] at hZ; cases hZ
        have ix : ixN ys.length ((n : Nat) : Int) = some n := by
          unfold ixN
          rw [if_pos (by omega), if_pos (by omega)]
          congr 1
        refine ⟨_, rfl, _, rfl, p, _, _, n, rfl, rfl, by rw [upd_ne npZ]; exact hb8, ix, ?_⟩
        dsimp only
        have tps : Tps H8 (upd (upd H8 Z (.tup [.str (gs g), .int (m.2 + dd)])) p (.lst (ys.set n (.ref Z)))) := fun b xs e => by
          rw [upd_ne (fun z => by rw [z, hb8] at e; cases e), upd_ne (ne_of_none e hZ)]; exact e
        have hg9 : upd (upd H8 Z (.tup [.str (gs g), .int (m.2 + dd)])) p (.lst (ys.set n (.ref Z))) pg = some (.lst [V.str "dry", .str "wet"]) := by
          rw [upd_ne npg, upd_ne (ne_of_none hg8 hZ)]; exact hg8
        obtain ⟨f0, f1, f2, f3⟩ := gfin (ms.set n (m.1, m.2 + dd)) (by rw [Bk.sm_set g dd ms n m hm1, if_pos hmg, hsm, ← hdd]; exact over_up _ _) (fun g' hg' => by rw [Bk.sm_set g' dd ms n m hm1, if_neg (by rw [hmg]; exact fun e => hg' e.symm), Int.add_zero])
        refine ⟨ys.set n (.ref Z), ms.set n (m.1, m.2 + dd), _, _, _, _, rfl, ((s6.trans s68).trans (same_new hZ)).write hp0, upd_same, hg9, ?_, by rw [List.length_set]; exact hl6, Bk.pos_set dd (by omega) ms n m hm1 hpos6, Bk.alt_set _ ms n m hm1 halt6, fun j => ?_, f0, f1, f2, f3⟩
        · exact rows_set ⟨Z, rfl, by rw [upd_ne npZ.symm, upd_same, hmg]⟩ n (hy8.mono tps)
        · by_cases e : j = n
          · subst e
            rw [List.getElem?_set_self (by omega), ← hsame j, hm1]
            rfl
          · rw [List.getElem?_set_ne (Ne.symm e)]; exact hsame j
      · have z1 : Bk.sm g ms % N = 0 := by
          have z2 : ¬ 0 < Bk.sm g rs % N := fun e => z (decide_eq_true (by rw [ejs]; exact e))
          have z3 := Int.emod_nonneg (Bk.sm g rs) (Int.ne_of_gt hN)
          rw [hsm]; omega
        obtain ⟨f0, f1, f2, f3⟩ := gfin ms z1 (fun _ _ => rfl)
        exact ⟨ys, ms, _, _, _, _, rfl, s6.trans s68, hb8, hg8, hy8, hl6, hpos6, halt6, hsame, f0, f1, f2, f3⟩
    · rintro σ H6 ⟨ys, ms, z3, z4, zo, z5, rfl, s6, hb6, hg6, hy6, hl6, hpos6, halt6, hsame, i0, i1, i2, i3⟩
      refine ⟨_, rfl, q p ys ms H6 s6 hp0 hb6 hy6 hpos6 halt6 (by omega) fun g => ?_⟩
      cases g
      · exact i3 (by decide)
      · exact i1 (by decide)
end
end K9

set_option linter.all false
/-! a bank dealt by halves -/
namespace L2
/-- a share moved -/
def farP (d : Int) (ps : List Pc) : List Pc := ps.map fun p => (p.1 + d, p.2 + d)
/-- a piece of the rest, told on the bank -/
def part1 (t d : Int) (p : Pc) : List Pc := if p.2 ≤ t then [p] else if t ≤ p.1 then [(p.1 + d, p.2 + d)] else [(p.1, t), (t + d, p.2 + d)]
def partP (t d : Int) (ps : List Pc) : List Pc := ps.flatMap (part1 t d)
theorem partP_snoc (t d : Int) (ps : List Pc) (p : Pc) : partP t d (ps ++ [p]) = partP t d ps ++ part1 t d p := by simp [partP]
theorem partP_length (t d : Int) : ∀ ps : List Pc, (partP t d ps).length ≤ 2 * ps.length
  | [] => by simp [partP]
  | p :: r => by
    have ih := partP_length t d r
    have e : partP t d (p :: r) = part1 t d p ++ partP t d r := by simp [partP]
    have h1 : (part1 t d p).length ≤ 2 := by unfold part1; split <;> (try split) <;> simp
    rw [e, List.length_append, List.length_cons]
    omega
/-- the ground from s to e, and the rest of it -/
def cutR (rs : List Bk.Rw) (s e : Int) : List Bk.Rw := Bk.tidy (Bk.part 0 s e rs)
def restR (rs : List Bk.Rw) (s e : Int) : List Bk.Rw := Bk.meet (Bk.pos (Bk.part 0 0 s rs)) (Bk.pos (Bk.part 0 e (Bk.tot rs) rs))
/-- dealt among 2 ^ n heirs -/
inductive Dealt : Nat → List Bk.Rw → List (List Pc) → Prop where
  | one {rs : List Bk.Rw} : Dealt 0 rs [wl [(0, Bk.tot rs)]]
  | more {n : Nat} {rs : List Bk.Rw} {p : Int} {A B : List (List Pc)} (h : Bk.IsHalf rs p) (a : Dealt n (cutR rs p (p + Bk.tot rs / 2)) A) (b : Dealt n (restR rs p (p + Bk.tot rs / 2)) B) :
      Dealt (n + 1) rs (A.map (farP p) ++ B.map (partP p (Bk.tot rs / 2)))
theorem Dealt.uniq : ∀ {n : Nat} {rs : List Bk.Rw} {S T : List (List Pc)}, Dealt n rs S → Dealt n rs T → S = T
  | _, _, _, _, .one, .one => rfl
  | _, _, _, _, .more h a b, .more h' a' b' => by
    cases h.uniq h'
    rw [a.uniq a', b.uniq b']
theorem Dealt.length : ∀ {n : Nat} {rs : List Bk.Rw} {S : List (List Pc)}, Dealt n rs S → S.length = 2 ^ n
  | _, _, _, .one => rfl
  | _, _, _, .more _ a b => by
    rw [List.length_append, List.length_map, List.length_map, a.length, b.length, Nat.pow_succ]
    omega
end L2

set_option Elab.async false
set_option linter.all false
set_option maxRecDepth 100000
set_option maxHeartbeats 4000000
namespace K9
open PySem L2
open Bk (Alt alt_snoc)
section
variable {K : PySem.W.Frag}
theorem kit_list_list : PySem.W.kitOne K (.type "list") (.type "list") = some true := rfl
theorem kit_tup_tup : PySem.W.kitOne K (.type "tuple") (.type "tuple") = some true := rfl
end
section
variable {P : Program} {w : World} {K : PySem.W.Frag} {mg : Str → Option Value} {base : Heap}
seal L2.PSs L2.PS L2.PE L2.PA L2.PT L2.PW
/-! _law_shares -/
def spShares : Sp := fun vs H Q _ => ∃ p as S n, vs = [.ref p, .int n] ∧ SsAt H p as S ∧ n = ((as.length : Nat) : Int) ∧ Q (.bl true) H
theorem scSh : FnScope ["_law_found", "_law_many", "_law_share", "_law_piece"] ["_law_found", "_law_many"] (defScope sShares) := ⟨rfl, rfl, rfl, by decide +kernel, rfl, by decide +kernel, by decide +kernel⟩
theorem ok_shares {f f1 : Addr} {fd fd1 : FuncData} (F : FunG K "_law_shares" "_law_shares" sShares f fd .none) (T : Pl mg) (D1 : Df K mg "_law_whole" sLWh ["_law_found"] f1 fd1) : FnOk P w K mg base CX0 2 f fd ["_law_found", "_law_many"] spShares := by
  have GW : FnOk P w K mg base CX0 1 f1 fd1 ["_law_found"] spLWh := ok_lwh D1.fn T
  refine F.ok scSh (fun vs H Q E h => ?_) (fun cdv A outer s H vs Q E hr h => ?_)
  · obtain ⟨_, _, _, _, rfl, _⟩ := h; rfl
  · obtain ⟨p, as, S, n, rfl, hS, hn, k⟩ := h
    refine ⟨_, pss_cons (ps_if (PW.pt (pw_or (pt_not (pt_val (pe_callB call_isi rfl T.isi PyProof.Rows.boot_isinstance (pa_cons (pv 0) (pa_cons (pe_bltn (v := .ty "list") rfl T.list PyProof.Rows.boot_list rfl) pa_nil)))))
        (pw_or1 (pt_cmpR op_ne (pe_callB call_len_seq rfl T.len PySem.boot_len (pa_cons (pv 0) pa_nil)) (pv 1) (nomark _))))) pss_never pss_nil)
      (pss_cons (ps_for PassesOwn.never rfl (pi_list (pv 0)) (pg_name (i := 2) scSh.nd rfl (Or.inl rfl))
        (pss_cons (ps_if (pt_not (pt_val (pe_callB call_isi rfl T.isi PyProof.Rows.boot_isinstance (pa_cons (pv 2) (pa_cons (pe_bltn (v := .ty "list") rfl T.list PyProof.Rows.boot_list rfl) pa_nil))))) pss_never pss_nil)
        (pss_one (ps_for PassesOwn.never rfl (pi_list (pv 2)) (pg_name (i := 3) scSh.nd rfl (Or.inl rfl))
          (pss_cons (ps_if (PW.pt (pw_or (pt_not (pt_val (pe_callB call_isi rfl T.isi PyProof.Rows.boot_isinstance (pa_cons (pv 3) (pa_cons (pe_bltn (v := .ty "tuple") rfl T.tuple PyProof.Rows.boot_tuple rfl) pa_nil)))))
            (pw_or1 (pt_cmpR op_ne (pe_callB call_len_seq rfl T.len PySem.boot_len (pa_cons (pv 3) pa_nil)) pe_int (nomark _))))) pss_never pss_nil)
          (pss_one (ps_if (PW.pt (pw_or (pt_not (pt_val (pe_call GW hr rfl D1.gl D1.fn.kp D1.bd .nil pass0 (pa_cons (pe_ix ix_tup (pv 3) pe_int (fun _ _ => rfl)) pa_nil))))
            (pw_or1 (pt_not (pt_val (pe_call GW hr rfl D1.gl D1.fn.kp D1.bd .nil pass0 (pa_cons (pe_ix ix_tup (pv 3) pe_int (fun _ _ => rfl)) pa_nil))))))) pss_never pss_nil)))))))
      (pss_one (ps_ret pe_bl))), ?_⟩
    refine ⟨_, rfl, _, _, _, rfl, .of (.lst hS.1), .inl ⟨rfl, true, kit_list_list, true, rfl, iteF ?_⟩⟩
    refine ⟨_, rfl, p, _, rfl, .inl (SqL.of hS.1), _, rfl, rfl, false, ?_, iteF ?_⟩
    · rw [List.length_map, ← hn, decide_eq_true rfl]; rfl
    refine ⟨_, rfl, p, rfl, ⟨_, SqL.of hS.1⟩, for_list (K := K) (a := p) (xs := as.map V.ref) (fun i σ H2 => ∃ z1 z2, σ = [some (.ref p), some (.int n), z1, z2] ∧ H2 = H) ⟨none, none, rfl, rfl⟩ (fun i σ H2 _ ⟨_, _, _, e⟩ => by rw [e]; exact SqL.of hS.1) ?_ ?_⟩
    · rintro i x σ H2 hx ⟨z1, z2, rfl, rfl⟩
      rw [List.getElem?_map] at hx
      obtain ⟨a, ha, rfl⟩ := Option.map_eq_some_iff.mp hx
      obtain ⟨ps, hps, xs, hxs, hq⟩ := paired_get hS.2 ha
      refine ⟨_, rfl, _, _, _, rfl, .of (.lst hxs), .inl ⟨rfl, true, kit_list_list, true, rfl, iteF ?_⟩⟩
      refine ⟨_, rfl, a, rfl, ⟨_, SqL.of hxs⟩, for_list (K := K) (a := a) (xs := xs) (fun i σ H3 => ∃ z2, σ = [some (.ref p), some (.int n), some (.ref a), z2] ∧ H3 = H2) ⟨_, rfl, rfl⟩ (fun i σ H3 _ ⟨_, _, e⟩ => by rw [e]; exact SqL.of hxs) ?_ ?_⟩
      · rintro j y σ H3 hy ⟨z2, rfl, rfl⟩
        obtain ⟨r, hr1, q, rfl, hq2⟩ := paired_get hq hy
        refine ⟨_, rfl, _, _, _, rfl, .of (.tup hq2), .inl ⟨rfl, true, kit_tup_tup, true, rfl, iteF ?_⟩⟩
        refine ⟨_, rfl, q, _, rfl, .inr (SqT.of hq2), rfl, false, rfl, iteF ?_⟩
        refine ⟨_, rfl, q, _, _, _, rfl, rfl, SqT.of hq2, rfl, _, rfl, true, rfl, iteF ?_⟩
        refine ⟨_, rfl, q, _, _, _, rfl, rfl, SqT.of hq2, rfl, _, rfl, true, rfl, iteF ?_⟩
        exact ⟨_, rfl, rfl⟩
      · rintro σ H3 ⟨z2, rfl, rfl⟩
        exact ⟨_, _, rfl, rfl⟩
    · rintro σ H2 ⟨z1, z2, rfl, rfl⟩
      exact k
/-! _law_farther -/
def spFar (K : PySem.W.Frag) : Sp := fun vs H Q _ => ∃ a ps d, vs = [.ref a, .int d] ∧ ShAt H a ps ∧ ps.length ≤ 1000 ∧ ∀ p H', Same H H' → H p = none → ShAt H' p (farP d ps) → Q (.ref p) H'
theorem scFa : FnScope ["_law_share", "_law_far"] ["_law_share", "_law_far"] (defScope sFar) := ⟨rfl, rfl, rfl, by decide +kernel, rfl, by decide +kernel, by decide +kernel⟩
theorem ok_far {f : Addr} {fd : FuncData} (F : FunG K "_law_farther" "_law_farther" sFar f fd .none) (T : Pl mg) : FnOk P w K mg base CX0 1 f fd ["_law_share", "_law_far"] (spFar K) := by
  refine F.ok scFa (fun vs H Q E h => ?_) (fun cdv A outer s H vs Q E hr h => ?_)
  · obtain ⟨_, _, _, rfl, _⟩ := h; rfl
  · obtain ⟨a, ps, d, rfl, ⟨xs, ha, hP⟩, hl, k⟩ := h
    refine ⟨_, pss_one (ps_ret (pe_comp (Nc := ["_law_start", "_law_end", "_law_far"]) (fv := [none, none, some 1]) ⟨rfl, by decide +kernel, rfl, by decide +kernel, ⟨rfl, trivial⟩, rfl, rfl, ⟨⟨rfl, rfl, rfl, rfl⟩, trivial⟩⟩ rfl (pi_list (pv 0))
      (fun _ _ _ _ _ => pg_tupK (K := K) (n := 2) rfl rfl (pgs_cons (pg_name (i := 0) (show (["_law_start", "_law_end", "_law_far"] : List Str).Nodup by decide +kernel) rfl (Or.inl rfl)) (pgs_cons (pg_name (i := 1) (show (["_law_start", "_law_end", "_law_far"] : List Str).Nodup by decide +kernel) rfl (Or.inl rfl)) pgs_nil)))
      (fun _ _ _ _ _ => pif_nil) (fun _ _ _ _ _ => pe_tup (pa_cons (pe_op op_add (pv 0) (pv 2)) (pa_cons (pe_op op_add (pv 1) (pv 2)) pa_nil))))), ?_⟩
    have hlen := Paired.length hP
    refine ⟨_, rfl, a, rfl, ⟨_, SqL.of ha⟩, fun p hp => ?_⟩
    refine comp_list (K := K) (a := a) (xs := xs) (fun i ys H2 => Same H H2 ∧ H2 p = some (.lst ys) ∧ PcsAt H2 ys (farP d (ps.take i))) ⟨same_new hp, upd_same, .nil⟩ (fun i ys H2 h => ⟨h.1.seq (SqL.of ha), h.2.1⟩) ?_ ?_
    · rintro i x ys H2 hi hx ⟨sm, hy, hP2⟩
      obtain ⟨r, hr1, hr2⟩ := paired_get hP hx
      obtain ⟨q, rfl, hq⟩ := hr2.mono sm.tps
      have ly := Paired.length hP2
      refine ⟨q, _, rfl, SqT.of hq, rfl, _, _, rfl, _, _, rfl, rfl, ((Wk.refl _).set rfl).set rfl, yes ?_⟩
      refine ⟨_, rfl, _, rfl, _, _, rfl, rfl, _, rfl, _, rfl, _, _, rfl, rfl, by show 2 ≤ sizeLine; decide, fun Z hZ => ?_⟩
      have g1 := same_new (o := .tup [.int (r.1 + d), .int (r.2 + d)]) hZ
      have hy1 := g1 _ _ hy
      refine ⟨hy1, ?_, nx hi ⟨(sm.trans g1).write hp, upd_same, ?_⟩⟩
      · refine Nat.lt_of_le_of_lt (m := 1000) ?_ (by decide)
        unfold farP at ly
        simp only [List.length_map, List.length_take] at ly ⊢; omega
      · have e : farP d (ps.take (i + 1)) = farP d (ps.take i) ++ [(r.1 + d, r.2 + d)] := by rw [take_snoc hr1]; simp [farP]
        rw [e]
        have tps : ∀ o, Tps (upd H2 Z (.tup [.int (r.1 + d), .int (r.2 + d)])) (upd (upd H2 Z (.tup [.int (r.1 + d), .int (r.2 + d)])) p o) := fun o b zs z => by rw [upd_ne (fun y => by rw [y, hy1] at z; cases z)]; exact z
        exact Paired.snoc ((hP2.mono g1.tps).mono (tps _)) ⟨Z, rfl, tps _ _ _ upd_same⟩
    · rintro ys H2 ⟨sm, hy, hP2⟩
      rw [hlen, List.take_length] at hP2
      exact k p H2 sm hp ⟨ys, hy, hP2⟩
end
end K9

set_option Elab.async false
set_option linter.all false
set_option maxRecDepth 100000
set_option maxHeartbeats 4000000
namespace K9
open PySem L2
open Bk (Alt alt_snoc)
section
variable {P : Program} {w : World} {K : PySem.W.Frag} {mg : Str → Option Value} {base : Heap}
seal L2.PSs L2.PS L2.PE L2.PA L2.PT L2.PW
/-! _law_parted -/
def spPart (K : PySem.W.Frag) : Sp := fun vs H Q _ => ∃ a ps t d, vs = [.ref a, .int t, .int d] ∧ ShAt H a ps ∧ ps.length ≤ 1000 ∧ ∀ p H', Same H H' → H p = none → ShAt H' p (partP t d ps) → Q (.ref p) H'
theorem scPa : FnScope ["_law_share", "_law_at", "_law_far", "_law_made", "_law_start", "_law_end"] ["_law_share", "_law_at", "_law_far"] (defScope sPart) := ⟨rfl, rfl, rfl, by decide +kernel, rfl, by decide +kernel, by decide +kernel⟩
theorem ok_part {f : Addr} {fd : FuncData} (F : FunG K "_law_parted" "_law_parted" sPart f fd .none) (T : Pl mg) : FnOk P w K mg base CX0 1 f fd ["_law_share", "_law_at", "_law_far"] (spPart K) := by
  refine F.ok scPa (fun vs H Q E h => ?_) (fun cdv A outer s H vs Q E hr h => ?_)
  · obtain ⟨_, _, _, _, rfl, _⟩ := h; rfl
  · obtain ⟨a, ps, t, d, rfl, ⟨xs, ha, hP⟩, hl, k⟩ := h
    refine ⟨_, pss_cons (ps_set (i := 3) scPa.nd rfl (Or.inl rfl) (pe_lst pa_nil))
      (pss_cons (ps_for PassesOwn.never rfl (pi_list (pv 0)) (pg_tup rfl (pgs_cons (pg_name (i := 4) scPa.nd rfl (Or.inl rfl)) (pgs_cons (pg_name (i := 5) scPa.nd rfl (Or.inl rfl)) pgs_nil)))
        (pss_one (ps_if (pt_cmpR op_le (pv 5) (pv 1) (nomark _))
          (pss_one (ps_expr (pe_bm PySem.F.plainAttrs_list PySem.F.slot_list_append PySem.F.type_list_append mt_append (pv 3) (pa_cons (pe_tup (pa_cons (pv 4) (pa_cons (pv 5) pa_nil))) pa_nil))))
          (pss_one (ps_if (pt_cmpR op_ge (pv 4) (pv 1) (nomark _))
            (pss_one (ps_expr (pe_bm PySem.F.plainAttrs_list PySem.F.slot_list_append PySem.F.type_list_append mt_append (pv 3) (pa_cons (pe_tup (pa_cons (pe_op op_add (pv 4) (pv 2)) (pa_cons (pe_op op_add (pv 5) (pv 2)) pa_nil))) pa_nil))))
            (pss_one (ps_set (i := 3) scPa.nd rfl (Or.inl rfl) (pe_op op_cat (pv 3) (pe_lst (pa_cons (pe_tup (pa_cons (pv 4) (pa_cons (pv 1) pa_nil))) (pa_cons (pe_tup (pa_cons (pe_op op_add (pv 1) (pv 2)) (pa_cons (pe_op op_add (pv 5) (pv 2)) pa_nil))) pa_nil)))))))))))
      (pss_one (ps_ret (pv 3)))), ?_⟩
    have hlen := Paired.length hP
    refine ⟨Nat.zero_le _, fun p0 hp0 => ?_⟩
    refine ⟨_, rfl, a, rfl, ⟨_, (same_new hp0).seq (SqL.of ha)⟩, for_list (K := K) (a := a) (xs := xs) (fun i σ H2 => ∃ p ys z4 z5, σ = [some (.ref a), some (.int t), some (.int d), some (.ref p), z4, z5] ∧ Same H H2 ∧ H p = none ∧ H2 p = some (.lst ys) ∧ PcsAt H2 ys (partP t d (ps.take i)))
      ⟨p0, [], none, none, rfl, same_new hp0, hp0, upd_same, .nil⟩ (fun i σ H2 _ ⟨_, _, _, _, _, e, _⟩ => e.seq (SqL.of ha)) ?_ ?_⟩
    · rintro i x σ H2 hx ⟨p, ys, z4, z5, rfl, sm, hp, hy, hP2⟩
      obtain ⟨r, hr1, hr2⟩ := paired_get hP hx
      obtain ⟨q, rfl, hq⟩ := hr2.mono sm.tps
      have ly := Paired.length hP2
      have hi : i < xs.length := (List.getElem?_eq_some_iff.mp hx).1
      have lys : ys.length ≤ 2000 := by
        have := partP_length t d (ps.take i)
        rw [List.length_take] at this
        omega
      have e : partP t d (ps.take (i + 1)) = partP t d (ps.take i) ++ part1 t d r := by rw [take_snoc hr1, partP_snoc]
      refine ⟨q, _, rfl, SqT.of hq, rfl, _, _, rfl, _, _, rfl, rfl, ?_⟩
      -- one piece is put behind
      have app : ∀ (c : Pc) (Z : Addr), H2 Z = none → part1 t d r = [c] → Same H (upd (upd H2 Z (.tup [.int c.1, .int c.2])) p (.lst (ys ++ [.ref Z]))) ∧ upd H2 Z (.tup [.int c.1, .int c.2]) p = some (.lst ys) ∧
          PcsAt (upd (upd H2 Z (.tup [.int c.1, .int c.2])) p (.lst (ys ++ [.ref Z]))) (ys ++ [.ref Z]) (partP t d (ps.take (i + 1))) := fun c Z hZ e1 => by
        have g1 := same_new (o := .tup [.int c.1, .int c.2]) hZ
        have hy1 := g1 _ _ hy
        refine ⟨(sm.trans g1).write hp, hy1, ?_⟩
        have tps : ∀ o, Tps (upd H2 Z (.tup [.int c.1, .int c.2])) (upd (upd H2 Z (.tup [.int c.1, .int c.2])) p o) := fun o b zs z => by rw [upd_ne (fun y => by rw [y, hy1] at z; cases z)]; exact z
        rw [e, e1]
        exact Paired.snoc ((hP2.mono g1.tps).mono (tps _)) ⟨Z, rfl, tps _ _ _ upd_same⟩
      refine ⟨_, rfl, _, rfl, _, _, rfl, rfl, _, rfl, ?_⟩
      refine ite2 (fun z => ?_) (fun z => ?_)
      · have z' : r.2 ≤ t := of_decide_eq_true z
        refine ⟨_, rfl, .inl ⟨rfl, _, SqL.of hy⟩, _, rfl, _, rfl, by show 2 ≤ sizeLine; decide, fun Z hZ => ?_⟩
        obtain ⟨a1, a2, a3⟩ := app r Z hZ (by unfold part1; rw [if_pos z'])
        exact ⟨p, ys, _, rfl, rfl, a2, Nat.lt_of_le_of_lt lys (by decide), p, _, _, _, rfl, a1, hp, upd_same, a3⟩
      have z1 : ¬ r.2 ≤ t := fun y => z (decide_eq_true y)
      refine ⟨_, rfl, _, rfl, _, _, rfl, rfl, _, rfl, ?_⟩
      refine ite2 (fun z => ?_) (fun z => ?_)
      · have z' : t ≤ r.1 := of_decide_eq_true z
        refine ⟨_, rfl, .inl ⟨rfl, _, SqL.of hy⟩, _, rfl, _, rfl, _, _, rfl, rfl, _, rfl, _, rfl, _, _, rfl, rfl, by show 2 ≤ sizeLine; decide, fun Z hZ => ?_⟩
        obtain ⟨a1, a2, a3⟩ := app (r.1 + d, r.2 + d) Z hZ (by unfold part1; rw [if_neg z1, if_pos z'])
        exact ⟨p, ys, _, rfl, rfl, a2, Nat.lt_of_le_of_lt lys (by decide), p, _, _, _, rfl, a1, hp, upd_same, a3⟩
      have z2 : ¬ t ≤ r.1 := fun y => z (decide_eq_true y)
      refine ⟨_, rfl, _, rfl, _, rfl, by show 2 ≤ sizeLine; decide, fun Y hY => ?_⟩
      have g1 := same_new (o := .tup [.int r.1, .int t]) hY
      have e1 : upd H2 Y (.tup [.int r.1, .int t]) Y = some (.tup [.int r.1, .int t]) := upd_same
      have hy1 := g1 _ _ hy
      generalize upd H2 Y (.tup [.int r.1, .int t]) = G1 at g1 e1 hy1 ⊢
      refine ⟨_, rfl, _, rfl, _, _, rfl, rfl, _, rfl, _, rfl, _, _, rfl, rfl, by show 2 ≤ sizeLine; decide, fun Z hZ => ?_⟩
      have g2 := same_new (o := .tup [.int (t + d), .int (r.2 + d)]) hZ
      have e2 : upd G1 Z (.tup [.int (t + d), .int (r.2 + d)]) Z = some (.tup [.int (t + d), .int (r.2 + d)]) := upd_same
      have hy2 := g2 _ _ hy1
      have e12 := g2 _ _ e1
      generalize upd G1 Z (.tup [.int (t + d), .int (r.2 + d)]) = G2 at g2 e2 hy2 e12 ⊢
      refine ⟨by show 2 ≤ sizeLine; decide, fun L hL => ?_⟩
      have g3 := same_new (o := .lst [V.ref Y, V.ref Z]) hL
      have hy3 := g3 _ _ hy2
      refine ⟨p, L, ys, [V.ref Y, V.ref Z], rfl, rfl, hy3, upd_same, Nat.le_trans (Nat.add_le_add_right lys 2) (by decide), fun N hN => ?_⟩
      have g4 := same_new (o := .lst (ys ++ [V.ref Y, V.ref Z])) hN
      have g := g1.trans (g2.trans (g3.trans g4))
      refine ⟨N, _, _, _, rfl, sm.trans g, (sm.trans (g1.trans (g2.trans g3))).free hN, upd_same, ?_⟩
      have e3 : part1 t d r = [(r.1, t), (t + d, r.2 + d)] := by unfold part1; rw [if_neg z1, if_neg z2]
      rw [e, e3]
      have w1 := (g3.trans g4) _ _ e12
      have w2 := (g3.trans g4) _ _ e2
      have h1 : PcsAt _ (ys ++ [V.ref Y]) (partP t d (ps.take i) ++ [(r.1, t)]) := Paired.snoc (hP2.mono g.tps) ⟨Y, rfl, w1⟩
      have h2 := Paired.snoc h1 (b := (t + d, r.2 + d)) (a := V.ref Z) ⟨Z, rfl, w2⟩
      simpa using h2
    · rintro σ H2 ⟨p, ys, z4, z5, rfl, sm, hp, hy, hP2⟩
      rw [hlen, List.take_length] at hP2
      exact ⟨_, rfl, k p H2 sm hp ⟨ys, hy, hP2⟩⟩
end
end K9

set_option linter.all false
/-! halves of a bank are banks with half its ground -/
namespace Bk
theorem put_good {bs : List Rw} {r : Rw} (h : 0 ≤ r.2) (a : Alt bs) (p : ∀ x ∈ bs, 0 < x.2) : Alt (put bs r) ∧ ∀ x ∈ put bs r, 0 < x.2 := by
  rcases snoc_cases bs with rfl | ⟨i, b, rfl⟩
  · rw [put_nil]
    split
    · exact ⟨True.intro, by simpa⟩
    · exact ⟨True.intro, by simp⟩
  · rw [put_snoc]
    split
    · rename_i e
      have g : (i ++ [b])[i.length]? = some b := by simp
      have a2 := alt_set (b.2 + r.2) (i ++ [b]) i.length b g a
      have e2 : (i ++ [b]).set i.length (b.1, b.2 + r.2) = i ++ [(r.1, b.2 + r.2)] := by simp [List.set_append, e]
      rw [e2] at a2
      have pb := p b (by simp)
      refine ⟨a2, fun x hx => ?_⟩
      rcases List.mem_append.mp hx with y | y
      · exact p x (by simp [y])
      · rw [List.mem_singleton.mp y]; show 0 < b.2 + r.2; omega
    · rename_i e
      split
      · rename_i l
        refine ⟨alt_snoc a fun c hc => ?_, fun x hx => ?_⟩
        · have : b = c := by simpa using hc
          rw [← this]; exact e
        · rcases List.mem_append.mp hx with y | y
          · exact p x y
          · rw [List.mem_singleton.mp y]; exact l
      · exact ⟨a, p⟩
theorem fold_good : ∀ (rs acc : List Rw), (∀ r ∈ rs, 0 ≤ r.2) → Alt acc → (∀ x ∈ acc, 0 < x.2) → Alt (rs.foldl put acc) ∧ ∀ x ∈ rs.foldl put acc, 0 < x.2
  | [], acc, _, a, p => ⟨a, p⟩
  | r :: t, acc, h, a, p => by
    obtain ⟨a1, p1⟩ := put_good (h r (by simp)) a p
    exact fold_good t (put acc r) (fun x hx => h x (by simp [hx])) a1 p1
theorem tidy_good (rs : List Rw) (h : ∀ r ∈ rs, 0 ≤ r.2) : Alt (tidy rs) ∧ ∀ x ∈ tidy rs, 0 < x.2 := fold_good rs [] h True.intro (by simp)
theorem pos_nn (rs : List Rw) : ∀ r ∈ pos rs, 0 ≤ r.2 := fun r h => Int.le_of_lt (pos_pos r h)
end Bk
namespace L2
open Bk
variable {rs : List Rw}
theorem cut_good (s e : Int) : Alt (cutR rs s e) ∧ ∀ x ∈ cutR rs s e, 0 < x.2 := tidy_good _ (part_nonneg _ _ _ _)
theorem rest_tidy (s e : Int) (a : Alt rs) (p : ∀ r ∈ rs, 0 < r.2) : restR rs s e = tidy (pos (part 0 0 s rs) ++ pos (part 0 e (tot rs) rs)) :=
  (tidy_meet (part_alt rs 0 0 s a p) (part_alt rs 0 e (tot rs) a p) pos_pos pos_pos).symm
theorem two_nn (s e : Int) : ∀ r ∈ pos (part 0 0 s rs) ++ pos (part 0 e (tot rs) rs), 0 ≤ r.2 := fun r h => by
  rcases List.mem_append.mp h with y | y
  · exact pos_nn _ r y
  · exact pos_nn _ r y
theorem rest_good (s e : Int) (a : Alt rs) (p : ∀ r ∈ rs, 0 < r.2) : Alt (restR rs s e) ∧ ∀ x ∈ restR rs s e, 0 < x.2 := by
  rw [rest_tidy s e a p]
  exact tidy_good _ (two_nn s e)
theorem cut_len (s e : Int) : (cutR rs s e).length ≤ rs.length := by
  have h := tidy_length (part 0 s e rs)
  rw [part_length] at h
  exact h
theorem rest_len (s e : Int) (a : Alt rs) (p : ∀ r ∈ rs, 0 < r.2) : (restR rs s e).length ≤ 2 * rs.length := by
  rw [rest_tidy s e a p]
  have h := tidy_length (pos (part 0 0 s rs) ++ pos (part 0 e (tot rs) rs))
  rw [List.length_append] at h
  have h1 := pos_length (part 0 0 s rs)
  have h2 := pos_length (part 0 e (tot rs) rs)
  rw [part_length] at h1 h2
  omega
theorem cut_sm (g : Bool) {s e : Int} (h : s ≤ e) (h0 : ∀ r ∈ rs, 0 ≤ r.2) : sm g (cutR rs s e) = cum g e 0 rs - cum g s 0 rs := by
  unfold cutR
  rw [sm_tidy g _ (part_nonneg _ _ _ _), sm_part g s e h rs 0 h0]
theorem pos_sm (g : Bool) {s e : Int} (a : Alt rs) (p : ∀ r ∈ rs, 0 < r.2) : sm g (pos (part 0 s e rs)) = sm g (part 0 s e rs) := by
  rw [← tidy_part s e a p, sm_tidy g _ (part_nonneg _ _ _ _)]
theorem rest_sm (g : Bool) {s e : Int} (hs : 0 ≤ s) (he : e ≤ tot rs) (a : Alt rs) (p : ∀ r ∈ rs, 0 < r.2) : sm g (restR rs s e) = sm g rs - (cum g e 0 rs - cum g s 0 rs) := by
  have h0 : ∀ r ∈ rs, 0 ≤ r.2 := fun r hr => Int.le_of_lt (p r hr)
  rw [rest_tidy s e a p, sm_tidy g _ (two_nn s e), sm_append, pos_sm g a p, pos_sm g a p, sm_part g 0 s hs rs 0 h0, sm_part g e (tot rs) he rs 0 h0, cum_low g 0 rs 0 h0 (Int.le_refl _), cum_high g (tot rs) rs 0 h0 (by omega)]
  omega
/-- half the ground on either side -/
theorem half_cum {p : Int} (H : IsHalf rs p) (hp : ∀ r ∈ rs, 0 < r.2) (ev : ∀ g, sm g rs % 2 = 0) (g : Bool) : 2 * (cum g (p + tot rs / 2) 0 rs - cum g p 0 rs) = sm g rs := by
  have h0 : ∀ r ∈ rs, 0 ≤ r.2 := fun r hr => Int.le_of_lt (hp r hr)
  have ht := tot_nonneg rs h0
  have hts := tot_sm rs
  have e1 := ev true
  have e2 := ev false
  have hn := H.nn
  have hl := H.le
  have h1 := H.at_
  unfold over at h1
  have b1 := cum_both p rs 0 h0
  have b2 := cum_both (p + tot rs / 2) rs 0 h0
  have m1 : max (min (tot rs) (p - 0)) 0 = p := by omega
  have m2 : max (min (tot rs) (p + tot rs / 2 - 0)) 0 = p + tot rs / 2 := by omega
  rw [m1] at b1
  rw [m2] at b2
  cases g <;> omega
theorem half_cut {p : Int} (H : IsHalf rs p) (a : Alt rs) (hp : ∀ r ∈ rs, 0 < r.2) (ev : ∀ g, sm g rs % 2 = 0) (g : Bool) :
    2 * sm g (cutR rs p (p + tot rs / 2)) = sm g rs ∧ 2 * sm g (restR rs p (p + tot rs / 2)) = sm g rs := by
  have h0 : ∀ r ∈ rs, 0 ≤ r.2 := fun r hr => Int.le_of_lt (hp r hr)
  have ht := tot_nonneg rs h0
  have hn := H.nn
  have hl := H.le
  have h := half_cum H hp ev g
  rw [cut_sm g (by omega) h0, rest_sm g hn (by omega) a hp]
  omega
theorem half_mod {x y : Int} {n : Nat} (h : 2 * x = y) (m : y % 2 ^ (n + 1) = 0) : x % 2 ^ n = 0 := by
  rw [← h, Int.pow_succ, Int.mul_comm (2 ^ n) 2, Int.mul_emod_mul_of_pos _ _ (by decide)] at m
  omega
theorem mod_two {y : Int} {n : Nat} (m : y % 2 ^ (n + 1) = 0) : y % 2 = 0 := by
  obtain ⟨k, hk⟩ := Int.dvd_of_emod_eq_zero m
  rw [hk, Int.pow_succ, Int.mul_comm (2 ^ n) 2, Int.mul_assoc]
  exact Int.mul_emod_right _ _
theorem Dealt.small : ∀ {n : Nat} {rs : List Rw} {S : List (List Pc)}, Dealt n rs S → ∀ s ∈ S, s.length ≤ 2 ^ n
  | _, _, _, .one, s, h => by
    rw [List.mem_singleton.mp h]
    exact List.length_filter_le _ _
  | _, _, _, .more _ a b, s, h => by
    rw [Nat.pow_succ]
    rcases List.mem_append.mp h with y | y
    · obtain ⟨t, ht, rfl⟩ := List.mem_map.mp y
      have := a.small t ht
      unfold farP
      rw [List.length_map]
      omega
    · obtain ⟨t, ht, rfl⟩ := List.mem_map.mp y
      have h1 := b.small t ht
      exact Nat.le_trans (partP_length _ _ t) (by omega)
end L2

set_option Elab.async false
set_option linter.all false
set_option maxRecDepth 100000
set_option maxHeartbeats 4000000
namespace K9
open PySem L2
open Bk (Alt alt_snoc)
theorem pass_no {P : Program} {w : World} {X : Cx} : Passes (CXE P w) X E0 := fun _ _ _ _ _ _ _ h => (cxe_none h).elim
theorem tot_sum : ∀ rs : List Bk.Rw, (rs.map (·.2)).sum = Bk.tot rs
  | [] => rfl
  | r :: t => by simp [Bk.tot, tot_sum t]
theorem four2 {i : Int} (h0 : 0 ≤ i) (h1 : i < 4) : ∃ n : Nat, n ≤ 3 ∧ atI [V.int 2, V.int 4, V.int 8, V.int 16] i = some (.int (2 ^ (n + 1))) := by
  have : i = 0 ∨ i = 1 ∨ i = 2 ∨ i = 3 := by omega
  rcases this with rfl | rfl | rfl | rfl
  · exact ⟨0, by decide, rfl⟩
  · exact ⟨1, by decide, rfl⟩
  · exact ⟨2, by decide, rfl⟩
  · exact ⟨3, by decide, rfl⟩
theorem paired_append {α β : Type} {F : α → β → Prop} : ∀ {a : List α} {b : List β} {c : List α} {d : List β}, Paired F a b → Paired F c d → Paired F (a ++ c) (b ++ d)
  | _, _, _, _, .nil, h => h
  | _, _, _, _, .cons x t, h => .cons x (paired_append t h)
theorem half_pow (n : Nat) : (2 : Int) ^ (n + 1) / 2 = 2 ^ n := by
  rw [Int.pow_succ]; omega
section
variable {P : Program} {w : World} {K : PySem.W.Frag} {mg : Str → Option Value} {base : Heap}
/-- what half_place tells of a bank with even sums -/
def spHalf (K : PySem.W.Frag) : Sp := fun vs H Q _ => ∃ a xs rs, vs = [.ref a] ∧ SqL K H a xs ∧ RowsAt H xs rs ∧ (∀ r ∈ rs, 0 < r.2) ∧ Alt rs ∧ rs.length ≤ 100 ∧ (∀ g, Bk.sm g rs % 2 = 0) ∧ ∀ p H', Same H H' → Bk.IsHalf rs p → Q (.int p) H'
/-- what cut_out and rest tell of places on the bank -/
def spCutR (K : PySem.W.Frag) (F : List Bk.Rw → Int → Int → List Bk.Rw) : Sp := fun vs H Q _ => ∃ a xs rs s e, vs = [.ref a, .int s, .int e] ∧ SqL K H a xs ∧ RowsAt H xs rs ∧ (∀ r ∈ rs, 0 < r.2) ∧ Alt rs ∧ rs.length ≤ 100 ∧ 0 ≤ s ∧ s ≤ e ∧ e ≤ Bk.tot rs ∧
  ∀ p ys H', Same H H' → H p = none → H' p = some (.lst ys) → RowsAt H' ys (F rs s e) → Q (.ref p) H'
/-- what deal tells of a bank whose sums are multiples of the heirs -/
def spDeal (K : PySem.W.Frag) : Sp := fun vs H Q _ => ∃ a xs rs n, vs = [.ref a, .int (2 ^ n)] ∧ SqL K H a xs ∧ RowsAt H xs rs ∧ (∀ r ∈ rs, 0 < r.2) ∧ Alt rs ∧ rs.length ≤ 200 ∧ n ≤ 4 ∧ (∀ g, Bk.sm g rs % 2 ^ n = 0) ∧
  ∀ p as S H', Same H H' → H p = none → (∀ b ∈ as, H b = none) → (p :: as).Nodup → Dealt n rs S → SsAt H' p as S → Q (.ref p) H'
def spLaw (K : PySem.W.Frag) : Sp := fun vs H Q _ => ∃ (a : Addr) (ns : List Int), vs = [.ref a] ∧ SqL K H a (ns.map V.int) ∧ ns.length ≤ 63 ∧ ∀ H', Q (.bl true) H'
theorem scLaw : FnScope ["_law_script", "_law_heirs", "_law_bank_here", "_law_half", "_law_at", "_law_found", "_law_ahead", "_law_behind", "_law_due"] ["_law_script"] (defScope sLaw) := ⟨rfl, rfl, rfl, by decide +kernel, rfl, by decide +kernel, by decide +kernel⟩
seal L2.PSs L2.PS L2.PE L2.PA L2.PT L2.PW
theorem ok_law {kH : Nat} {f fC fW fL fB fE fS fFa fPa fH fD fCu fRe : Addr} {fd fdC fdW fdL fdB fdE fdS fdFa fdPa fdH fdD fdCu fdRe : FuncData} (F : FunG K "law" "law" sLaw f fd .none) (T : Pl mg) (h2 : 2 ≤ kH)
    (DC : Df K mg "_law_cell_at" sCell ["_law_script", "_law_k"] fC fdC) (DW : Df K mg "_law_whole" sLWh ["_law_found"] fW fdW) (DL : Df K mg "_law_long" sLong ["_law_cell"] fL fdL) (DB : Df K mg "_law_bank" sLBank ["_law_script"] fB fdB)
    (DE : Df K mg "_law_evened" sEven ["_law_rows", "_law_heirs", "_law_cell"] fE fdE) (DS : Df K mg "_law_shares" sShares ["_law_found", "_law_many"] fS fdS)
    (DFa : Df K mg "_law_farther" sFar ["_law_share", "_law_far"] fFa fdFa) (DPa : Df K mg "_law_parted" sPart ["_law_share", "_law_at", "_law_far"] fPa fdPa)
    (gH : mg "half_place" = some (.ref fH)) (kpH : PySem.W.keepIn K (.ref fH) = true) (bH : Binds K fdH ["bank"] []) (GH : FnOk P w K mg base (CXE P w) kH fH fdH ["bank"] (spHalf K))
    (gD : mg "deal" = some (.ref fD)) (kpD : PySem.W.keepIn K (.ref fD) = true) (bD : Binds K fdD ["bank", "heirs"] []) (GD : FnOk P w K mg base (CXE P w) kH fD fdD ["bank", "heirs"] (spDeal K))
    (gCu : mg "cut_out" = some (.ref fCu)) (kpCu : PySem.W.keepIn K (.ref fCu) = true) (bCu : Binds K fdCu ["bank", "start", "end"] []) (GCu : FnOk P w K mg base (CXE P w) kH fCu fdCu ["bank", "start", "end"] (spCutR K cutR))
    (gRe : mg "rest" = some (.ref fRe)) (kpRe : PySem.W.keepIn K (.ref fRe) = true) (bRe : Binds K fdRe ["bank", "start", "end"] []) (GRe : FnOk P w K mg base (CXE P w) kH fRe fdRe ["bank", "start", "end"] (spCutR K restR)) :
    FnOk P w K mg base CX0 (kH + 1) f fd ["_law_script"] (spLaw K) := by
  have GC : FnOk P w K mg base CX0 1 fC fdC ["_law_script", "_law_k"] (spCell K) := ok_cell DC.fn T
  have GW : FnOk P w K mg base CX0 1 fW fdW ["_law_found"] spLWh := ok_lwh DW.fn T
  have GB : FnOk P w K mg base CX0 2 fB fdB ["_law_script"] (spLBank K) := ok_lbank DB.fn T DC DL
  have GE : FnOk P w K mg base CX0 1 fE fdE ["_law_rows", "_law_heirs", "_law_cell"] (spEven K) := ok_even DE.fn T
  have GS : FnOk P w K mg base CX0 2 fS fdS ["_law_found", "_law_many"] spShares := ok_shares DS.fn T DW
  have GFa : FnOk P w K mg base CX0 1 fFa fdFa ["_law_share", "_law_far"] (spFar K) := ok_far DFa.fn T
  have GPa : FnOk P w K mg base CX0 1 fPa fdPa ["_law_share", "_law_at", "_law_far"] (spPart K) := ok_part DPa.fn T
  refine F.ok scLaw (fun vs H Q E h => ?_) (fun cdv A outer s H vs Q E hr h => ?_)
  · obtain ⟨v, r, rfl, _⟩ := h; rfl
  · obtain ⟨sc, ns, rfl, hSc, hns, k⟩ := h
    have r2 : Room 2 _ := hr.mono h2
    have r1 : Room 1 _ := hr.mono (Nat.le_trans (by decide) h2)
    refine ⟨_, pss_cons (ps_set (i := 1) scLaw.nd rfl (Or.inl rfl) (pe_ix ix_list (pe_lst (pa_cons pe_int (pa_cons pe_int (pa_cons pe_int (pa_cons pe_int pa_nil))))) (pe_op op_mod (pe_op op_fdiv (pe_call GC r1 rfl DC.gl DC.fn.kp DC.bd .nil pass0 (pa_cons (pv 0) (pa_cons pe_int pa_nil))) pe_int) pe_int) (fun _ _ => rfl)))
      (pss_cons (ps_set (i := 2) scLaw.nd rfl (Or.inl rfl) (pe_call GE r1 rfl DE.gl DE.fn.kp DE.bd .nil pass0 (pa_cons (pe_call GB r2 rfl DB.gl DB.fn.kp DB.bd .nil pass0 (pa_cons (pv 0) pa_nil)) (pa_cons (pv 1) (pa_cons (pe_op op_fdiv (pe_call GC r1 rfl DC.gl DC.fn.kp DC.bd .nil pass0 (pa_cons (pv 0) (pa_cons pe_int pa_nil))) pe_int) pa_nil)))))
      (pss_cons (ps_set (i := 3) scLaw.nd rfl (Or.inr rfl) (pe_op op_fdiv (pe_callB (call_sum rfl) rfl T.sum PyProof.Rows.boot_sum (pa_cons (pe_comp (Nc := ["_law_row"]) (fv := [none]) ⟨rfl, by decide +kernel, rfl, by decide +kernel, trivial, by decide +kernel, rfl, trivial⟩ rfl (pi_list (pv 2))
            (fun _ _ _ _ _ => pg_name (i := 0) (show (["_law_row"] : List Str).Nodup by decide +kernel) rfl (Or.inl rfl))
            (fun _ _ _ _ _ => pif_nil) (fun _ _ _ _ _ => pe_ix (ix_tupK (K := K) rfl) (pv 0) pe_int (fun _ _ => rfl))) pa_nil)) pe_int))
      (pss_cons (ps_set (i := 4) scLaw.nd rfl (Or.inr rfl) (pe_call GH hr rfl gH kpH bH .nil pass_no (pa_cons (pe_callTy call_list_of rfl T.list PyProof.Rows.boot_list (pa_cons (pv 2) pa_nil)) pa_nil)))
      (pss_cons (ps_if (PW.pt (pw_or (pt_not (pt_val (pe_call GW r1 rfl DW.gl DW.fn.kp DW.bd .nil pass0 (pa_cons (pv 4) pa_nil)))) (pw_or (pt_cmpR op_lt (pv 4) pe_int (nomark _)) (pw_or1 (pt_cmpR op_gt (pv 4) (pv 3) (nomark _)))))) pss_never pss_nil)
      (pss_cons (ps_set (i := 5) scLaw.nd rfl (Or.inl rfl) (pe_call GD hr rfl gD kpD bD .nil pass_no (pa_cons (pe_callTy call_list_of rfl T.list PyProof.Rows.boot_list (pa_cons (pv 2) pa_nil)) (pa_cons (pv 1) pa_nil))))
      (pss_cons (ps_set (i := 6) scLaw.nd rfl (Or.inl rfl) (pe_call GD hr rfl gD kpD bD .nil pass_no (pa_cons (pe_call GCu hr rfl gCu kpCu bCu .nil pass_no (pa_cons (pe_callTy call_list_of rfl T.list PyProof.Rows.boot_list (pa_cons (pv 2) pa_nil)) (pa_cons (pv 4) (pa_cons (pe_op op_add (pv 4) (pv 3)) pa_nil)))) (pa_cons (pe_op op_fdiv (pv 1) pe_int) pa_nil))))
      (pss_cons (ps_set (i := 7) scLaw.nd rfl (Or.inl rfl) (pe_call GD hr rfl gD kpD bD .nil pass_no (pa_cons (pe_call GRe hr rfl gRe kpRe bRe .nil pass_no (pa_cons (pe_callTy call_list_of rfl T.list PyProof.Rows.boot_list (pa_cons (pv 2) pa_nil)) (pa_cons (pv 4) (pa_cons (pe_op op_add (pv 4) (pv 3)) pa_nil)))) (pa_cons (pe_op op_fdiv (pv 1) pe_int) pa_nil))))
      (pss_cons (ps_if (pt_not (pt_val (pe_call GS r2 rfl DS.gl DS.fn.kp DS.bd .nil pass0 (pa_cons (pv 5) (pa_cons (pv 1) pa_nil))))) pss_never pss_nil)
      (pss_cons (ps_if (PW.pt (pw_or (pt_not (pt_val (pe_call GS r2 rfl DS.gl DS.fn.kp DS.bd .nil pass0 (pa_cons (pv 6) (pa_cons (pe_op op_fdiv (pv 1) pe_int) pa_nil))))) (pw_or1 (pt_not (pt_val (pe_call GS r2 rfl DS.gl DS.fn.kp DS.bd .nil pass0 (pa_cons (pv 7) (pa_cons (pe_op op_fdiv (pv 1) pe_int) pa_nil)))))))) pss_never pss_nil)
      (pss_cons (ps_comp (i := 8) (Nc := ["_law_share", "_law_at"]) (fv := [none, some 4]) ⟨rfl, by decide +kernel, rfl, by decide +kernel, ⟨rfl, trivial⟩, rfl, rfl, ⟨⟨rfl, rfl, rfl, rfl⟩, trivial⟩⟩ scLaw.nd rfl (Or.inl rfl) rfl (pi_list (pv 6))
          (fun _ _ _ _ _ => pg_name (i := 0) (show (["_law_share", "_law_at"] : List Str).Nodup by decide +kernel) rfl (Or.inl rfl)) (fun _ _ _ _ _ => pif_nil)
          (fun _ _ _ _ _ => pe_call GFa r1 rfl DFa.gl DFa.fn.kp DFa.bd .nil pass0 (pa_cons (pv 0) (pa_cons (pv 1) pa_nil))))
      (pss_cons (ps_set (i := 8) scLaw.nd rfl (Or.inl rfl) (pe_op op_cat (pv 8) (pe_comp (Nc := ["_law_share", "_law_at", "_law_half"]) (fv := [none, some 4, some 3]) ⟨rfl, by decide +kernel, rfl, by decide +kernel, ⟨rfl, rfl, trivial⟩, rfl, rfl, ⟨⟨rfl, rfl, rfl, rfl⟩, ⟨rfl, rfl, rfl, rfl⟩, trivial⟩⟩ rfl (pi_list (pv 7))
          (fun _ _ _ _ _ => pg_name (i := 0) (show (["_law_share", "_law_at", "_law_half"] : List Str).Nodup by decide +kernel) rfl (Or.inl rfl)) (fun _ _ _ _ _ => pif_nil)
          (fun _ _ _ _ _ => pe_call GPa r1 rfl DPa.gl DPa.fn.kp DPa.bd .nil pass0 (pa_cons (pv 0) (pa_cons (pv 1) (pa_cons (pv 2) pa_nil)))))))
      (pss_one (ps_ret (pe_cmpR (op_eqD hr.units) (pv 5) (pv 8) (nomark _))))))))))))))), ?_⟩
    -- heirs
    refine ⟨by show 4 ≤ sizeLine; decide, fun ph hph => ?_⟩
    have s0 := same_new (o := .lst [V.int 2, .int 4, .int 8, .int 16]) hph
    have e0 : upd H ph (.lst [V.int 2, .int 4, .int 8, .int 16]) ph = some (.lst [V.int 2, .int 4, .int 8, .int 16]) := upd_same
    generalize upd H ph (.lst [V.int 2, .int 4, .int 8, .int 16]) = H0 at s0 e0 ⊢
    refine ⟨_, rfl, sc, ns, 0, rfl, s0.seq hSc, by decide, _, _, rfl, rfl, ⟨by decide, by decide⟩, _, _, rfl, rfl, (by decide : (0 : Int) < 4), ?_⟩
    obtain ⟨n, hn3, en⟩ := four2 (i := cellN ns 0 / 2 % 4) (Int.emod_nonneg _ (by decide)) (Int.emod_lt_of_pos _ (by decide))
    refine ⟨ph, _, _, _, rfl, rfl, SqL.of e0, en, ?_⟩
    have hp2 : (0 : Int) < 2 ^ (n + 1) := Int.pow_pos (by decide)
    -- the bank
    refine ⟨_, rfl, sc, ns, rfl, s0.seq hSc, hns, fun b0 ys0 rs0 H1 s1 hb00 hb0 hR0 hpos0 halt0 hl0 => ?_⟩
    refine ⟨_, rfl, _, rfl, sc, ns, 0, rfl, (s0.trans s1).seq hSc, by decide, _, _, rfl, rfl, ⟨by decide, by decide⟩, ?_⟩
    refine ⟨b0, ys0, rs0, _, _, rfl, hp2, SqL.of hb0, hR0, hpos0, halt0, hl0, fun a xs rs H2 s2 ha0 ha hR hpos halt hl hev => ?_⟩
    have h0 : ∀ r ∈ rs, 0 ≤ r.2 := fun r hr => Int.le_of_lt (hpos r hr)
    have ht := Bk.tot_nonneg rs h0
    have hlen := Paired.length hR
    have hev2 : ∀ g, Bk.sm g rs % 2 = 0 := fun g => mod_two (hev g)
    -- half
    refine ⟨_, rfl, a, rfl, ⟨_, SqL.of ha⟩, fun p hp => ?_⟩
    refine comp_list (K := K) (a := a) (xs := xs) (fun i ys H4 => Same H2 H4 ∧ H4 p = some (.lst ys) ∧ ys = ((rs.take i).map (·.2)).map V.int) ⟨same_new hp, upd_same, rfl⟩ (fun i ys H4 h => ⟨h.1.seq (SqL.of ha), h.2.1⟩) ?_ ?_
    · rintro i x ys H4 hi hx ⟨sm, hy, rfl⟩
      obtain ⟨r, hr1, hr2⟩ := hR.get hx
      obtain ⟨q, rfl, hq⟩ := hr2.mono sm.tps
      refine ⟨((Wk.refl _).set rfl), yes ?_⟩
      refine ⟨_, rfl, q, _, _, _, rfl, rfl, SqT.of hq, rfl, hy, ?_, nx hi ⟨sm.write hp, upd_same, ?_⟩⟩
      · refine Nat.lt_of_le_of_lt (m := 1000) ?_ (by decide)
        simp only [List.length_map, List.length_take]; omega
      · rw [take_snoc hr1]; simp
    rintro ys H3 ⟨s3, hy, rfl⟩
    refine ⟨p, _, rfl, SqL.of hy, _, _, rfl, rfl, ⟨by decide, by decide⟩, ?_⟩
    have et : ((rs.take xs.length).map (·.2)).sum = Bk.tot rs := by rw [hlen, List.take_length, tot_sum]
    rw [et]
    clear hy
    have ha3 := s3 _ _ ha
    have hR3 : RowsAt H3 xs rs := hR.mono s3.tps
    -- the half place
    refine ⟨_, rfl, a, xs, rfl, .inl (SqL.of ha3), fun b hb => ?_⟩
    refine ⟨b, xs, rs, rfl, SqL.of upd_same, hR3.mono (same_new hb).tps, hpos, halt, by omega, hev2, fun pl H5 s5 hH => ?_⟩
    have s5' := (same_new (o := .lst xs) hb).trans s5
    have ha5 := s5' _ _ ha3
    have hR5 : RowsAt H5 xs rs := hR3.mono s5'.tps
    have hpl := hH.le
    have hpn := hH.nn
    refine ⟨_, rfl, pl, rfl, true, rfl, iteF ?_⟩
    refine ⟨_, rfl, _, _, rfl, rfl, _, rfl, ?_⟩
    refine ite2 (fun z => ?_) (fun _ => ?_)
    · have z' : pl < 0 := of_decide_eq_true z
      omega
    refine ⟨_, rfl, _, rfl, _, _, rfl, rfl, _, rfl, ?_⟩
    refine ite2 (fun z => ?_) (fun _ => ?_)
    · have z' : Bk.tot rs / 2 < pl := of_decide_eq_true z
      omega
    -- found
    refine ⟨_, rfl, a, xs, rfl, .inl (SqL.of ha5), fun c1 hc1 => ?_⟩
    refine ⟨_, rfl, c1, xs, rs, n + 1, rfl, SqL.of upd_same, hR5.mono (same_new hc1).tps, hpos, halt, by omega, by omega, hev, fun u us SF H6 s6 _ _ _ hDF UF => ?_⟩
    have s6' := (same_new (o := .lst xs) hc1).trans s6
    have ha6 := s6' _ _ ha5
    have hR6 : RowsAt H6 xs rs := hR5.mono s6'.tps
    -- ahead
    refine ⟨_, rfl, a, xs, rfl, .inl (SqL.of ha6), fun c2 hc2 => ?_⟩
    refine ⟨_, rfl, _, rfl, _, rfl, _, _, rfl, rfl, c2, xs, rs, pl, _, rfl, SqL.of upd_same, hR6.mono (same_new hc2).tps, hpos, halt, by omega, hpn, by omega, by omega, fun q2 ys2 H7 s7 _ hq2 hRq2 => ?_⟩
    have s7' := (same_new (o := .lst xs) hc2).trans s7
    have hcut := half_cut hH halt hpos hev2
    refine ⟨_, rfl, _, _, rfl, rfl, ⟨by decide, by decide⟩, q2, ys2, _, n, (show [V.ref q2, V.int (2 ^ (n + 1) / 2)] = [V.ref q2, V.int (2 ^ n)] by rw [half_pow]), SqL.of hq2, hRq2, (cut_good _ _).2, (cut_good _ _).1, Nat.le_trans (cut_len _ _) (by omega), by omega, fun g => half_mod (hcut g).1 (hev g), fun v vs SA H8 s8 _ _ _ hDA VA => ?_⟩
    have s8' := s7'.trans s8
    have ha8 := s8' _ _ ha6
    have hR8 : RowsAt H8 xs rs := hR6.mono s8'.tps
    have U8 := UF.mono s8'
    -- behind
    refine ⟨_, rfl, a, xs, rfl, .inl (SqL.of ha8), fun c3 hc3 => ?_⟩
    refine ⟨_, rfl, _, rfl, _, rfl, _, _, rfl, rfl, c3, xs, rs, pl, _, rfl, SqL.of upd_same, hR8.mono (same_new hc3).tps, hpos, halt, by omega, hpn, by omega, by omega, fun q3 ys3 H9 s9 _ hq3 hRq3 => ?_⟩
    have s9' := (same_new (o := .lst xs) hc3).trans s9
    refine ⟨_, rfl, _, _, rfl, rfl, ⟨by decide, by decide⟩, q3, ys3, _, n, (show [V.ref q3, V.int (2 ^ (n + 1) / 2)] = [V.ref q3, V.int (2 ^ n)] by rw [half_pow]), SqL.of hq3, hRq3, (rest_good _ _ halt hpos).2, (rest_good _ _ halt hpos).1, Nat.le_trans (rest_len _ _ halt hpos) (by omega), by omega, fun g => half_mod (hcut g).2 (hev g), fun w' ws SB HA sA _ _ _ hDB WA => ?_⟩
    have sA' := s9'.trans sA
    have UA := U8.mono sA'
    have VA := VA.mono sA'
    have hS : SF = SA.map (farP pl) ++ SB.map (partP pl (Bk.tot rs / 2)) := hDF.uniq (.more hH hDA hDB)
    have lF := Paired.length UA.2
    have lA := Paired.length VA.2
    have lB := Paired.length WA.2
    rw [hDF.length] at lF
    rw [hDA.length] at lA
    rw [hDB.length] at lB
    clear U8 UF s8' s7' s6' s5' s9' sA' s3 s5 s6 s7 s8 s9 sA ha8 ha6 ha5 ha3 ha hR8 hR6 hR5 hR3 hR hRq2 hRq3 hq2 hq3 hR0 hb0 s0 s1 s2 e0
    -- they are shares
    refine ⟨_, rfl, _, rfl, u, us, SF, _, rfl, UA, by rw [lF]; simp, true, rfl, iteF ?_⟩
    refine ⟨_, rfl, _, rfl, _, _, rfl, rfl, ⟨by decide, by decide⟩, v, vs, SA, _, rfl, VA, by rw [lA, half_pow]; simp, true, rfl, iteF ?_⟩
    refine ⟨_, rfl, _, rfl, _, _, rfl, rfl, ⟨by decide, by decide⟩, w', ws, SB, _, rfl, WA, by rw [lB, half_pow]; simp, true, rfl, iteF ?_⟩
    -- due, of those ahead
    have hsA : ∀ (i : Nat) (z : List Pc), SA[i]? = some z → z.length ≤ 1000 := fun i z hz => by
      have h1 := hDA.small z (List.mem_of_getElem? hz)
      have h2 : 2 ^ n ≤ 2 ^ 3 := Nat.pow_le_pow_right (by decide) hn3
      omega
    have hsB : ∀ (i : Nat) (z : List Pc), SB[i]? = some z → z.length ≤ 1000 := fun i z hz => by
      have h1 := hDB.small z (List.mem_of_getElem? hz)
      have h2 : 2 ^ n ≤ 2 ^ 3 := Nat.pow_le_pow_right (by decide) hn3
      omega
    have h8 : 2 ^ n ≤ 8 := Nat.pow_le_pow_right (n := 2) (by decide) hn3
    refine ⟨_, rfl, v, rfl, ⟨_, SqL.of VA.1⟩, fun p1 hp1 => ?_⟩
    refine comp_list (K := K) (a := v) (xs := vs.map V.ref) (fun i ys HB => Same HA HB ∧ HB p1 = some (.lst ys) ∧ ∃ cs : List Addr, ys = cs.map V.ref ∧ (∀ c ∈ cs, c ≠ p1) ∧ ShsAt HB cs ((SA.take i).map (farP pl))) ⟨same_new hp1, upd_same, [], rfl, by simp, .nil⟩ (fun i ys HB h => ⟨h.1.seq (SqL.of VA.1), h.2.1⟩) ?_ ?_
    · rintro i x ys HB hi hx ⟨sm, hy, cs, rfl, hcs, hC⟩
      rw [List.getElem?_map] at hx
      obtain ⟨a1, ha1, rfl⟩ := Option.map_eq_some_iff.mp hx
      obtain ⟨z, hz, hz2⟩ := paired_get VA.2 ha1
      have ly := Paired.length hC
      rw [List.length_map, List.length_take] at ly
      rw [List.length_map] at hi
      refine ⟨((Wk.refl _).set rfl), yes ?_⟩
      refine ⟨_, rfl, _, rfl, a1, z, pl, rfl, hz2.mono sm, hsA i z hz, fun r HC sC hr hR => ?_⟩
      have hyC := sC _ _ hy
      have nr : r ≠ p1 := fun e => by rw [e, hy] at hr; cases hr
      refine ⟨hyC, ?_, nx (by rw [List.length_map]; exact hi) ⟨(sm.trans sC).write hp1, upd_same, cs ++ [r], by simp, fun c hc => ?_, ?_⟩⟩
      · exact Nat.lt_of_le_of_lt (m := 1000) (by rw [List.length_map]; omega) (by decide)
      · rcases List.mem_append.mp hc with y | y
        · exact hcs c y
        · rw [List.mem_singleton.mp y]; exact nr
      · rw [take_snoc hz, List.map_append]
        exact Paired.snoc (ShsAt.write hyC (hC.mono sC) hcs) (hR.write nr hyC)
    rintro ys HB ⟨sB, hy1, cs1, rfl, hcs1, hC1⟩
    rw [List.length_map, show vs.length = SA.length by rw [lA, hDA.length], List.take_length] at hC1
    have lC1 := Paired.length hC1
    rw [List.length_map, hDA.length] at lC1
    have UB := UA.mono sB
    have WB := WA.mono sB
    -- due, of those behind
    refine ⟨_, rfl, _, rfl, w', rfl, ⟨_, SqL.of WB.1⟩, fun p3 hp3 => ?_⟩
    refine comp_list (K := K) (a := w') (xs := ws.map V.ref) (fun i ys HC => Same HB HC ∧ HC p3 = some (.lst ys) ∧ ∃ cs : List Addr, ys = cs.map V.ref ∧ (∀ c ∈ cs, c ≠ p3) ∧ ShsAt HC cs ((SB.take i).map (partP pl (Bk.tot rs / 2)))) ⟨same_new hp3, upd_same, [], rfl, by simp, .nil⟩ (fun i ys HC h => ⟨h.1.seq (SqL.of WB.1), h.2.1⟩) ?_ ?_
    · rintro i x ys HC hi hx ⟨sm, hy, cs, rfl, hcs, hC⟩
      rw [List.getElem?_map] at hx
      obtain ⟨a1, ha1, rfl⟩ := Option.map_eq_some_iff.mp hx
      obtain ⟨z, hz, hz2⟩ := paired_get WB.2 ha1
      have ly := Paired.length hC
      rw [List.length_map, List.length_take] at ly
      rw [List.length_map] at hi
      refine ⟨((Wk.refl _).set rfl), yes ?_⟩
      refine ⟨_, rfl, _, rfl, _, rfl, a1, z, pl, _, rfl, hz2.mono sm, hsB i z hz, fun r HD sD hr hR => ?_⟩
      have hyD := sD _ _ hy
      have nr : r ≠ p3 := fun e => by rw [e, hy] at hr; cases hr
      refine ⟨hyD, ?_, nx (by rw [List.length_map]; exact hi) ⟨(sm.trans sD).write hp3, upd_same, cs ++ [r], by simp, fun c hc => ?_, ?_⟩⟩
      · exact Nat.lt_of_le_of_lt (m := 1000) (by rw [List.length_map]; omega) (by decide)
      · rcases List.mem_append.mp hc with y | y
        · exact hcs c y
        · rw [List.mem_singleton.mp y]; exact nr
      · rw [take_snoc hz, List.map_append]
        exact Paired.snoc (ShsAt.write hyD (hC.mono sD) hcs) (hR.write nr hyD)
    rintro ys HC ⟨sC, hy3, cs3, rfl, hcs3, hC3⟩
    rw [List.length_map, show ws.length = SB.length by rw [lB, hDB.length], List.take_length] at hC3
    have lC3 := Paired.length hC3
    rw [List.length_map, hDB.length] at lC3
    refine ⟨p1, p3, _, _, rfl, rfl, sC _ _ hy1, hy3, Nat.le_trans (m := 1000) (by rw [List.length_map, List.length_map]; omega) (by decide), fun p5 hp5 => ?_⟩
    have s5 := same_new (o := .lst (cs1.map V.ref ++ cs3.map V.ref)) hp5
    have D5 : SsAt (upd HC p5 (.lst (cs1.map V.ref ++ cs3.map V.ref))) p5 (cs1 ++ cs3) SF := by
      refine ⟨by rw [List.map_append]; exact upd_same, ?_⟩
      rw [hS]
      exact paired_append ((hC1.mono sC).mono s5) (hC3.mono s5)
    refine ⟨_, rfl, _, rfl, ssD SF, ssD SF, ss_dat (UB.mono (sC.trans s5)), ss_dat D5, ssD_can _, ssD_can _, ssD_depth _, ?_⟩
    rw [if_neg (by decide), eqv_ss, decide_eq_true rfl]
    exact k _
end
end K9

set_option Elab.async false
set_option linter.all false
set_option maxRecDepth 100000
/-! L4: f"..{text}.." -/
namespace L2
open PySem PySem.Spec PyProof.Rows
section
variable {X : Cx} {x y : Str} {cp vp dp jp : Pos} {te : TE} {val : Expr}
end
end L2

set_option Elab.async false
set_option linter.all false
set_option maxRecDepth 100000
/-! L4: is True, is not True -/
namespace L2
open PySem PySem.Spec PyProof.Rows
section
variable {X : Cx}
end
end L2

set_option Elab.async false
set_option linter.all false
set_option maxRecDepth 100000
/-! L6a: list(reversed(xs)) -/
namespace L2
open PySem PySem.Spec PyProof.Rows
theorem lri_no_len : typeLookup (.type "list_reverseiterator") "__len__" = pure none := by rw [typeLookup_type, builtinLookup_eq_fast]; kernel_rfl
theorem lri_hint : typeLookup (.type "list_reverseiterator") "__length_hint__" = pure (some (.builtin "list_reverseiterator.__length_hint__")) := by rw [typeLookup_type, builtinLookup_eq_fast]; kernel_rfl
section
variable {prog : Program} {w : World} {A : Around} {E : Value → Shared → Prop} {s : Shared}
theorem hint_rev {I l : Addr} {i : Int} {Q : Bool → Shared → Prop} (hr : s.heap.IsRevIter I l i) (h : Q false s) : wpAny (model prog w) A (Builtin.List.listLengthHint (.ref I)) Q E s := by
  unfold Builtin.List.listLengthHint
  refine wpAny_bind (wpAny_specialOf hr.typeIs lri_no_len ?_)
  show wpAny _ _ (specialOf (Value.ref I) (Str.ofString "__length_hint__") >>= _) _ _ _
  refine wpAny_bind (wpAny_specialOf hr.typeIs lri_hint ?_)
  wp_delta
  refine wpAny_bind (wpAny_isInstance (T := "list_reverseiterator") (b := true) hr.typeIs (by rw [isSubtype_type]; kernel_rfl) ?_)
  exact wpAny_pure h
theorem extend_rev {R : Result → Shared → Prop} {I l : Addr} {items : Array Value} (hh : A.handled = none) (hl : s.heap.IsList l items) (hr : s.heap.IsRevIter I l ((items.size : Int) - 1)) (hlen : items.size ≤ sizeLine) (S : Addr) (res : Value) (c₀ : Nat) (hS : s.heap.get? S = some { cls := .type "list", data := .seq #[] c₀ })
    (hSl : S ≠ l) (hR : ∀ h' tk acc' c', (∀ b o, b ≠ S → b ≠ I → s.heap.get? b = some o → h'.get? b = some o) → h'.get? S = some { cls := .type "list", dict := none, data := .seq acc' c', slots := #[] } →
      ItemsOf (fun i v => items[items.size - 1 - i]? = some v) acc' items.size → R (.ok (.ret res)) { s with heap := h', toks := tk }) :
    wpAny (model prog w) A.in1 (Builtin.List.listExtendWith (.ref S) (.ref I) res)
      (fun fin s' => match fin with | .done f => R (.ok f) s' | .again c' => c'.quiet = true ∧ codeAny (model prog w) A c' R s') (fun e s' => R (.error e) s') s := by
  have hlI : l ≠ I := fun e => by
    obtain ⟨o, h1, h2, _⟩ := hr
    obtain ⟨o', h3, h4, _⟩ := hl
    rw [e, h1] at h3; cases h3
    rw [h2] at h4; exact absurd h4 (by decide)
  have hSI : S ≠ I := fun e => by
    obtain ⟨o, h1, h2, _⟩ := hr
    rw [e, h1] at hS; cases hS; exact absurd (show Value.type "list" = Value.type "list_reverseiterator" from h2) (by decide)
  have hSf : S ∉ [I, l] := fun hm => by
    rcases List.mem_cons.mp hm with e | e
    · exact hSI e
    · exact hSl (List.mem_singleton.mp e)
  have W := (Walks.listRev (prog := prog) (w := w) (A := A.in1) hh I l hlI items).toS
  unfold Builtin.List.listExtendWith
  refine wpAny_bind (wpAny_typeOf hr.typeIs ?_)
  have h1 : Builtin.List.listSameRef (.ref S) (.ref I) = false := by simp [Builtin.List.listSameRef, hSI]
  have h2 : (Value.type "list_reverseiterator" == Value.type "list") = false := by decide
  have h3 : (Value.type "list_reverseiterator" == Value.type "tuple") = false := by decide
  simp only [h1, h2, h3, Bool.or_false, Bool.false_eq_true, if_false]
  refine wpAny_bind (wpAny_pyIter_revIter hr ?_)
  refine wpAny_bind (wpAny_holding (hint_rev hr ?_))
  rw [if_neg (by decide)]
  refine wpAny_pure ⟨plainId_quiet F.plain_extend_loop _, codeAny_extend_loopS W hlen _ hSf _ items.size 0 _ _ _ rfl (Nat.zero_le _) ⟨Nat.zero_le _, by simpa using hr, hl⟩ hS (ItemsOf.nil _) fun s' acc' c' hm hS' hacc => ?_⟩
  rw [Moved.eq_with hm]
  refine hR s'.heap s'.toks acc' c' (fun b ob hb hb2 e => hm.heap b ob (fun hmem => ?_) e) hS' hacc
  rcases List.mem_cons.mp hmem with e' | hmem
  · exact hb e'
  · exact hb2 (List.mem_singleton.mp hmem)
theorem init_rev {R : Result → Shared → Prop} {I l : Addr} {items : Array Value} (hh : A.handled = none) (hl : s.heap.IsList l items) (hr : s.heap.IsRevIter I l ((items.size : Int) - 1)) (hlen : items.size ≤ sizeLine) (S : Addr) (hS : s.heap.get? S = some { cls := .type "list", data := .seq #[] })
    (hSl : S ≠ l) (hSI : S ≠ I) (hR : ∀ h' tk acc' c', (∀ b o, b ≠ S → b ≠ I → s.heap.get? b = some o → h'.get? b = some o) → h'.get? S = some { cls := .type "list", dict := none, data := .seq acc' c', slots := #[] } →
      ItemsOf (fun i v => items[items.size - 1 - i]? = some v) acc' items.size → R (.ok (.ret .none)) { s with heap := h', toks := tk }) :
    wpAny (model prog w) A.in1 (Builtin.«list.__init__» ⟨[.ref S, .ref I], []⟩)
      (fun fin s' => match fin with | .done f => R (.ok f) s' | .again c' => c'.quiet = true ∧ codeAny (model prog w) A c' R s') (fun e s' => R (.error e) s') s := by
  show wpAny _ _ (do let old ← Builtin.List.listItems (.ref S); Builtin.List.listUpdate (.ref S) (fun _ => #[]); letGo old.toList.reverse; Builtin.List.listExtendWith (.ref S) (.ref I) .none) _ _ s
  refine wpAny_bind ?_
  unfold Builtin.List.listItems
  refine wpAny_bind (wpAny_seqItems hS rfl (wpAny_pure ?_))
  show wpAny _ _ (updateSeq S (fun _ => #[]) >>= fun _ => letGo (#[] : Array Value).toList.reverse >>= fun _ => Builtin.List.listExtendWith (.ref S) (.ref I) .none) _ _ s
  refine wpAny_bind (wpAny_updateSeq hS rfl ?_)
  have hS₂ := Heap.get?_update_self (Obj.mapSeq (fun _ => (#[] : Array Value))) hS rfl
  have oth : ∀ b o, b ≠ S → s.heap.get? b = some o → (s.heap.update S (Obj.mapSeq (fun _ => (#[] : Array Value)))).get? b = some o :=
    fun b o hb e => (Heap.get?_update_other _ _ (Ne.symm hb)).trans e
  refine wpAny_bind (wpAny_letGo ?_)
  refine extend_rev hh (hl.at fun o e => oth l o (Ne.symm hSl) e) (hr.at fun o e => oth I o (Ne.symm hSI) e) hlen S .none _ hS₂ hSl fun h' tk acc' c' hk hS' hacc => ?_
  exact hR h' tk acc' c' (fun b o hb hb2 e => hk b o hb hb2 (oth b o hb e)) hS' hacc
theorem list_rev {Q : Value → Shared → Prop} {I l : Addr} {items : Array Value} (hh : A.handled = none) (hl : s.heap.IsList l items) (hr : s.heap.IsRevIter I l ((items.size : Int) - 1)) (hlen : items.size ≤ sizeLine)
    (hQ : ∀ h' tk acc' c', (∀ b o, b ≠ I → s.heap.get? b = some o → h'.get? b = some o) →
      h'.get? s.heap.objs.size = some { cls := .type "list", dict := none, data := .seq acc' c', slots := #[] } → ItemsOf (fun i v => items[items.size - 1 - i]? = some v) acc' items.size → Q (.ref s.heap.objs.size) { s with heap := h', toks := tk }) :
    wpAny (model prog w) A (call (.type "list") [.ref I]) Q E s := by
  refine callType_codes (Q₁ := fun obj s₁ => obj = .ref s.heap.objs.size ∧ s₁ = { s with heap := s.heap.push { cls := .type "list", data := .seq #[] } }) F.called_list (F.typeCall_list_1 _) F.entry_list_init
    (code_list_new _ ⟨rfl, rfl⟩) fun obj s₁ h₁ => ?_
  obtain ⟨rfl, rfl⟩ := h₁
  have hS : (s.heap.push { cls := .type "list", data := .seq #[] }).get? s.heap.objs.size = some { cls := .type "list", data := .seq #[] } := Heap.get?_push_size _ rfl
  have ltl : l < s.heap.objs.size := by obtain ⟨o, q, _⟩ := hl; exact Heap.lt_size q
  have ltI : I < s.heap.objs.size := by obtain ⟨o, q, _⟩ := hr; exact Heap.lt_size q
  refine ⟨⟨_, hS, rfl⟩, F.args_list_init_2 _ _, init_rev (A := A.in1) hh (hl.at fun o e => Heap.get?_push_of_some _ e) (hr.at fun o e => Heap.get?_push_of_some _ e) hlen _ hS (Nat.ne_of_gt ltl) (Nat.ne_of_gt ltI) fun h' tk acc' c' hk hS' hacc => ?_⟩
  exact ⟨rfl, hQ h' tk acc' c' (fun b o hb e => hk b o (Nat.ne_of_lt (Heap.lt_size e)) hb (Heap.get?_push_of_some _ e)) hS' hacc⟩
end
theorem rev_items {its : List Value} {acc : Array Value} (h : ItemsOf (fun i v => its.toArray[its.toArray.size - 1 - i]? = some v) acc its.toArray.size) : acc = its.reverse.toArray := by
  obtain ⟨h1, h2⟩ := h
  apply Array.ext_getElem?
  intro i
  by_cases hi : i < acc.size
  · have e := h2 i acc[i] (Array.getElem?_eq_getElem hi)
    rw [Array.getElem?_eq_getElem hi]
    have hi2 : i < its.length := by rw [h1] at hi; simpa using hi
    have e3 : its.reverse[i]? = its[its.length - 1 - i]? := List.getElem?_reverse hi2
    have e2 : its.reverse.toArray[i]? = its.reverse[i]? := by simp
    rw [e2, e3]
    rw [← e]; simp
  · rw [Array.getElem?_eq_none (by omega), Array.getElem?_eq_none]
    simp at h1 ⊢; omega
section
variable {X : Cx} {x y : Str} {p p2 pos pos2 : Pos} {e : Expr} {ta : TA}
def tLRev (K : PySem.W.Frag) (ta : TA) : TE := fun σ H Q => ta σ H fun vs H1 => ∃ a xs, vs = [.ref a] ∧ SqL K H1 a xs ∧ ∀ l, H1 l = none → Q (.ref l) (upd H1 l (.lst xs.reverse))
/-- list(reversed(xs)) -/
theorem pe_lrev (hc : X.calm = true) (hg : Gl X "list") (hm : X.mg "list" = none) (hg2 : Gl X "reversed") (hm2 : X.mg "reversed" = none) (ha : PA X [e] ta)
    (he : starEach [Expr.Call (.Name "reversed" p2) [e] [] pos2] X.env = [(false, eval (Expr.Call (.Name "reversed" p2) [e] [] pos2) X.env)] := by rfl) (he2 : starEach [e] X.env = [(false, eval e X.env)] := by rfl) :
    PE X (.Call (.Name "list" p) [.Call (.Name "reversed" p2) [e] [] pos2] [] pos) (tLRev X.K ta) := by
  intro pins s σ H Q I h
  refine wpAny_Call_Name_kw (ld_blt I hg hm PyProof.Rows.boot_list ?_)
  refine PyProof.Rows.callWith_type1 ?_ he rfl
  rw [he]
  show wpAny _ _ (spliced [(false, eval (Expr.Call (.Name "reversed" p2) [e] [] pos2) X.env)]) _ _ _
  refine Calls.spliced_cons ?_
  refine wpAny_Call_Name_kw (ld_blt I hg2 hm2 (u := .type "reversed") PyProof.Rows.Boot.«reversed» ?_)
  refine PyProof.Rows.callWith_type1 (thn (ha pos2 pins s σ H _ I h) fun us s1 ⟨vs, H1, I1, r1, q1⟩ => ?_) he2 rfl
  obtain ⟨l, xs, rfl, hx, q⟩ := q1
  obtain ⟨u, rfl, rx⟩ := vals1 r1
  cases rx
  obtain ⟨its, rv, pl, hz⟩ := I1.list hx
  have hlen := rv.length
  refine call_reversed_list pl.isList (Calls.spliced_nil ?_)
  refine list_rev (items := its.toArray) (l := l) (I1.ok.hd hc) (pl.isList.at fun o e => Heap.get?_push_of_some _ e) ⟨_, Heap.get?_push_size _ rfl, rfl, rfl⟩ (by rw [List.size_toArray]; omega) fun h' tk acc c' hk hS hacc => ?_
  have ea := rev_items hacc
  subst ea
  have kp : ∀ b o, s1.heap.get? b = some o → h'.get? b = some o := fun b o e => hk b o (Nat.ne_of_lt (Heap.lt_size e)) (Heap.get?_push_of_some _ e)
  have le : s1.heap.objs.size ≤ (s1.heap.push (revObj l ((its.toArray.size : Int) - 1))).objs.size := by simp [Heap.push]
  exact ⟨.ref _, _, I1.laid (t' := tk) kp le (show ObjOk X.prog X.w _ h' _ (.lst xs.reverse) from ⟨by rw [List.length_reverse]; exact hz, _, c', rv.reverse, hS⟩), rfl, q _ (I1.hok.fresh le)⟩
end
end L2

set_option Elab.async false
set_option linter.all false
set_option maxRecDepth 100000
namespace Q9
open PySem L2
def top (i : Nat) : Stmt := PySem.Challenge.pw_bankshare_k09_dealt_by_halves.main.body.getD i (.Pass ⟨0, 0, 0, 0⟩)
abbrev sGround : Stmt := top 11
abbrev sWhole : Stmt := top 12
abbrev sRefuse : Stmt := top 13
abbrev sTidy : Stmt := top 14
/-- the names of Python's own that the defs ask for -/
structure Py (mg : Str → Option Value) : Prop where
  isi : mg "isinstance" = none
  str : mg "str" = none
  int : mg "int" = none
  bool : mg "bool" = none
  list : mg "list" = none
  tuple : mg "tuple" = none
  len : mg "len" = none
  sum : mg "sum" = none
  max : mg "max" = none
  min : mg "min" = none
  range : mg "range" = none
  enum : mg "enumerate" = none
  verr : mg "ValueError" = none
  rev : mg "reversed" = none
  abs : mg "abs" = none
  dry : ∃ t, mg "DRY" = some (.str "dry" t)
  wet : ∃ t, mg "WET" = some (.str "wet" t)
def isIntV : V → Bool
  | .int _ => true
  | _ => false
theorem kit_str {K : PySem.W.Frag} : PySem.W.kitOne K (.type "str") (.type "str") = some true := rfl
theorem kit_int {K : PySem.W.Frag} : PySem.W.kitOne K (.type "int") (.type "int") = some true := rfl
theorem kit_int_bool {K : PySem.W.Frag} : PySem.W.kitOne K (.type "int") (.type "bool") = some false := by kernel_rfl
section
variable {P : Program} {w : World} {K : PySem.W.Frag} {mg : Str → Option Value} {base : Heap}
/-! is_ground: of a ground it is True -/
def spGround : Sp := fun vs H Q _ => ∃ g, vs = [.str (gs g)] ∧ ∀ H', Same H H' → Q (.bl true) H'
theorem scG : FnScope ["value"] ["value"] (defScope sGround) := ⟨rfl, rfl, rfl, by decide +kernel, rfl, by decide +kernel, by decide +kernel⟩
theorem ok_ground {f : Addr} {fd : FuncData} (F : FunG K "is_ground" "is_ground" sGround f fd .none) (T : Py mg) : FnOk P w K mg base CX0 1 f fd ["value"] spGround := by
  refine F.ok scG (fun vs H Q E h => ?_) (fun cdv A outer s H vs Q E hr h => ?_)
  · obtain ⟨g, rfl, _⟩ := h; rfl
  · obtain ⟨g, rfl, k⟩ := h
    obtain ⟨t1, d1⟩ := T.dry
    obtain ⟨t2, d2⟩ := T.wet
    refine ⟨_, pss_one (ps_ret (pe_and (pe_callB call_isi rfl T.isi PyProof.Rows.boot_isinstance (pa_cons (pv 0) (pa_cons (pe_bltn (v := .ty "str") rfl T.str PyProof.Rows.boot_str rfl) pa_nil)))
      (pe_one (pe_cmpR op_in_seq (pv 0) (pe_tup (pa_cons (pe_glob (v := .str "dry") rfl d1 ⟨_, rfl⟩) (pa_cons (pe_glob (v := .str "wet") rfl d2 ⟨_, rfl⟩) pa_nil))) (by with_unfolding_all rfl))))), ?_⟩
    refine ⟨_, rfl, _, _, _, rfl, .of (.str _), .inl ⟨rfl, true, kit_str, true, rfl, iteT ?_⟩⟩
    refine ⟨_, rfl, by show 2 ≤ sizeLine; decide, fun p hp => ⟨p, _, rfl, .inr (SqT.of upd_same), rfl, rfl, ?_⟩⟩
    have e : inV (.str (gs g)) [.str "dry", .str "wet"] = true := by cases g <;> decide +kernel
    show Q (.bl (inV (.str (gs g)) [.str "dry", .str "wet"])) _
    rw [e]
    exact k _ (same_new hp)
end
end Q9
set_option Elab.async false
set_option linter.all false
set_option maxRecDepth 100000
namespace Q9
open PySem L2
section
variable {P : Program} {w : World} {K : PySem.W.Frag} {mg : Str → Option Value} {base : Heap}
def spWhole : Sp := fun vs H Q _ => ∃ i, vs = [.int i] ∧ Q (.bl true) H
theorem scW : FnScope ["value"] ["value"] (defScope sWhole) := ⟨rfl, rfl, rfl, by decide +kernel, rfl, by decide +kernel, by decide +kernel⟩
theorem ok_whole {f : Addr} {fd : FuncData} (F : FunG K "is_whole" "is_whole" sWhole f fd .none) (T : Py mg) : FnOk P w K mg base CX0 1 f fd ["value"] spWhole := by
  refine F.ok scW (fun vs H Q E h => ?_) (fun cdv A outer s H vs Q E hr h => ?_)
  · obtain ⟨g, rfl, _⟩ := h; rfl
  · obtain ⟨i, rfl, k⟩ := h
    refine ⟨_, pss_one (ps_ret (pe_and (pe_callB call_isi rfl T.isi PyProof.Rows.boot_isinstance (pa_cons (pv 0) (pa_cons (pe_bltn (v := .ty "int") rfl T.int PyProof.Rows.boot_int rfl) pa_nil)))
      (pe_one (pe_not (pe_callB call_isi rfl T.isi PyProof.Rows.boot_isinstance (pa_cons (pv 0) (pa_cons (pe_bltn (v := .ty "bool") rfl T.bool PyProof.Rows.boot_bool rfl) pa_nil))))))), ?_⟩
    refine ⟨_, rfl, _, _, _, rfl, .of (.int _), .inl ⟨rfl, true, kit_int, true, rfl, iteT ?_⟩⟩
    exact ⟨_, rfl, _, _, _, rfl, .of (.int _), .inl ⟨rfl, false, kit_int_bool, false, rfl, k⟩⟩
/-! refuse_wrong_row: of a row as it should be nothing is refused -/
def spRefuse : Sp := fun vs H Q _ => ∃ v r pl, vs = [v, .int pl] ∧ RowAt H v r ∧ 0 ≤ r.2 ∧ ∀ H', Same H H' → Q .non H'
theorem scR : FnScope ["row", "place"] ["row", "place"] (defScope sRefuse) := ⟨rfl, rfl, rfl, by decide +kernel, rfl, by decide +kernel, by decide +kernel⟩
theorem ok_refuse {f f1 f2 : Addr} {fd fd1 fd2 : FuncData} (F : FunG K "refuse_wrong_row" "refuse_wrong_row" sRefuse f fd .none) (T : Py mg) (D1 : Df K mg "is_ground" sGround ["value"] f1 fd1) (D2 : Df K mg "is_whole" sWhole ["value"] f2 fd2) :
    FnOk P w K mg base CX0 2 f fd ["row", "place"] spRefuse := by
  have G1 : FnOk P w K mg base CX0 1 f1 fd1 ["value"] spGround := ok_ground D1.fn T
  have G2 : FnOk P w K mg base CX0 1 f2 fd2 ["value"] spWhole := ok_whole D2.fn T
  refine F.ok scR (fun vs H Q E h => ?_) (fun cdv A outer s H vs Q E hr h => ?_)
  · obtain ⟨v, r, pl, rfl, _⟩ := h; rfl
  · obtain ⟨v, r, pl, rfl, ⟨p, rfl, hp⟩, hr0, k⟩ := h
    refine ⟨_, pss_cons (ps_if (pt_not (pt_val (pe_call G1 hr rfl D1.gl D1.fn.kp D1.bd .nil pass0 (pa_cons (pe_ix ix_tup (pv 0) pe_int (fun _ _ => rfl)) pa_nil)))) pss_never pss_nil)
      (pss_one (ps_if (PW.pt (pw_or (pt_not (pt_val (pe_call G2 hr rfl D2.gl D2.fn.kp D2.bd .nil pass0 (pa_cons (pe_ix ix_tup (pv 0) pe_int (fun _ _ => rfl)) pa_nil))))
        (pw_or1 (pt_cmpR op_lt (pe_ix ix_tup (pv 0) pe_int (fun _ _ => rfl)) pe_int (nomark _))))) pss_never pss_nil)), ?_⟩
    refine ⟨_, rfl, p, _, 0, _, rfl, rfl, SqT.of hp, rfl, r.1, rfl, fun H1 s1 => ⟨true, rfl, iteF ?_⟩⟩
    have hp1 := s1 _ _ hp
    refine ⟨_, rfl, p, _, 1, _, rfl, rfl, SqT.of hp1, rfl, r.2, rfl, true, rfl, iteF ?_⟩
    refine ⟨_, rfl, p, _, 1, _, rfl, rfl, SqT.of hp1, rfl, _, _, rfl, rfl, _, rfl, ?_⟩
    refine ite2 (fun z => ?_) (fun _ => k H1 s1)
    have z' : r.2 < 0 := of_decide_eq_true z
    omega
end
end Q9
set_option Elab.async false
set_option linter.all false
set_option maxRecDepth 100000
namespace Q9
open PySem L2
theorem take_snoc {α : Type} {l : List α} {i : Nat} {x : α} (h : l[i]? = some x) : l.take (i + 1) = l.take i ++ [x] := by
  rw [List.take_add_one, h]; rfl
section
variable {P : Program} {w : World} {K : PySem.W.Frag} {mg : Str → Option Value} {base : Heap}
def spTidy (K : PySem.W.Frag) : Sp := fun vs H Q _ => ∃ a xs rs, vs = [.ref a] ∧ SqL K H a xs ∧ RowsAt H xs rs ∧ (∀ r ∈ rs, 0 ≤ r.2) ∧ rs.length ≤ 1000 ∧
  ∀ p ys H', Same H H' → H p = none → H' p = some (.lst ys) → RowsAt H' ys (Bk.tidy rs) → Q (.ref p) H'
theorem scT : FnScope ["rows", "bank", "place", "row", "ground", "long"] ["rows"] (defScope sTidy) := ⟨rfl, rfl, rfl, by decide +kernel, rfl, by decide +kernel, by decide +kernel⟩
theorem ok_tidy {f f1 f2 f3 : Addr} {fd fd1 fd2 fd3 : FuncData} (F : FunG K "tidy" "tidy" sTidy f fd .none) (T : Py mg) (D1 : Df K mg "is_ground" sGround ["value"] f1 fd1) (D2 : Df K mg "is_whole" sWhole ["value"] f2 fd2)
    (D3 : Df K mg "refuse_wrong_row" sRefuse ["row", "place"] f3 fd3) : FnOk P w K mg base CX0 3 f fd ["rows"] (spTidy K) := by
  have G3 : FnOk P w K mg base CX0 2 f3 fd3 ["row", "place"] spRefuse := ok_refuse D3.fn T D1 D2
  refine F.ok scT (fun vs H Q E h => ?_) (fun cdv A outer s H vs Q E hr h => ?_)
  · obtain ⟨v, r, pl, rfl, _⟩ := h; rfl
  · obtain ⟨a, xs, rs, rfl, hS, hR, h0, hl, k⟩ := h
    refine ⟨_, pss_cons (ps_set (i := 1) scT.nd rfl (Or.inl rfl) (pe_lst pa_nil))
      (pss_cons (ps_for PassesOwn.never rfl (pi_enum rfl T.enum (pa_cons (pv 0) pa_nil)) (pg_tup rfl (pgs_cons (pg_name (i := 2) scT.nd rfl (Or.inl rfl)) (pgs_cons (pg_name (i := 3) scT.nd rfl (Or.inl rfl)) pgs_nil)))
        (pss_cons (ps_expr (pe_call G3 hr rfl D3.gl D3.fn.kp D3.bd .nil pass0 (pa_cons (pv 3) (pa_cons (pv 2) pa_nil))))
        (pss_cons (ps_set (i := 4) scT.nd rfl (Or.inl rfl) (pe_ix ix_tup (pv 3) pe_int (fun _ _ => rfl)))
        (pss_cons (ps_set (i := 5) scT.nd rfl (Or.inl rfl) (pe_ix ix_tup (pv 3) pe_int (fun _ _ => rfl)))
        (pss_one (ps_if (PW.pt (pw_and (pt_cmpR op_gt (pe_callB call_len_seq rfl T.len PySem.boot_len (pa_cons (pv 1) pa_nil)) pe_int (nomark _))
            (pw_and1 (pt_cmpR op_eq (pe_ix ix_tup (pe_ix ix_list (pv 1) (pe_un un_neg pe_int) (fun _ _ => rfl)) pe_int (fun _ _ => rfl)) (pv 4) (nomark _)))))
          (pss_one (ps_asg (pe_tup (pa_cons (pv 4) (pa_cons (pe_op op_add (pe_ix ix_tup (pe_ix ix_list (pv 1) (pe_un un_neg pe_int) (fun _ _ => rfl)) pe_int (fun _ _ => rfl)) (pv 5)) pa_nil))) (pg_sub (pv 1) (pe_un un_neg pe_int) set_list)))
          (pss_one (ps_if (pt_cmpR op_gt (pv 5) pe_int (nomark _))
            (pss_one (ps_expr (pe_bm PySem.F.plainAttrs_list PySem.F.slot_list_append PySem.F.type_list_append mt_append (pv 1) (pa_cons (pe_tup (pa_cons (pv 4) (pa_cons (pv 5) pa_nil))) pa_nil)))) pss_nil))))))))
      (pss_one (ps_ret (pv 1)))), ?_⟩
    refine ⟨Nat.zero_le _, fun p hp => ?_⟩
    have hlen := Paired.length hR
    have hz : ∀ n : Nat, n ≤ 1001 → n ≤ sizeLine := fun n h => Nat.le_trans h (by decide)
    refine ⟨_, rfl, a, rfl, ⟨_, (same_new hp).seq hS⟩, for_enum (K := K) (a := a) (xs := xs) (fun i σ H2 => ∃ ys s2 s3 s4 s5, σ = [some (.ref a), some (.ref p), s2, s3, s4, s5] ∧ Same H H2 ∧ H2 p = some (.lst ys) ∧ RowsAt H2 ys (Bk.tidy (rs.take i)))
      ⟨[], none, none, none, none, rfl, same_new hp, upd_same, .nil⟩ (fun i σ H2 _ ⟨_, _, _, _, _, _, s2, _⟩ => s2.seq hS) ?_ ?_⟩
    · rintro i x σ H2 t hx ⟨ys, s2, s3, s4, s5, rfl, sm, hb, hy⟩ ht
      obtain ⟨r, hr1, hr2⟩ := hR.get hx
      have hri : 0 ≤ r.2 := h0 r (List.mem_of_getElem? hr1)
      refine ⟨t, _, rfl, SqT.of upd_same, rfl, _, _, rfl, _, _, rfl, rfl, ?_⟩
      have sm3 : Same H (upd H2 t (.tup [.int i, x])) := sm.trans (same_new ht)
      refine ⟨_, rfl, _, rfl, x, r, i, rfl, hr2.mono sm3.tps, hri, fun H4 s4' => ?_⟩
      have sm4 := sm3.trans s4'
      obtain ⟨q, rfl, hq⟩ := hr2.mono sm4.tps
      have hb4 : H4 p = some (.lst ys) := s4' _ _ (same_new ht _ _ hb)
      have hy4 : RowsAt H4 ys (Bk.tidy (rs.take i)) := hy.mono ((same_new ht).trans s4').tps
      refine ⟨_, rfl, q, _, 0, _, rfl, rfl, SqT.of hq, rfl, ?_⟩
      refine ⟨_, rfl, q, _, 1, _, rfl, rfl, SqT.of hq, rfl, ?_⟩
      refine ⟨_, rfl, p, ys, rfl, .inl (SqL.of hb4), _, _, rfl, rfl, _, rfl, ?_⟩
      have hlt : i < rs.length := (List.getElem?_eq_some_iff.mp hr1).1
      have ly : ys.length ≤ 1000 := by
        have h1 := Paired.length hy4
        have h2 := Bk.tidy_length (rs.take i)
        have h3 : (rs.take i).length ≤ i := by rw [List.length_take]; omega
        omega
      have tk : Bk.tidy (rs.take (i + 1)) = Bk.put (Bk.tidy (rs.take i)) r := by rw [take_snoc hr1, Bk.tidy_snoc]
      have app : Bk.tidy (rs.take (i + 1)) = Bk.tidy (rs.take i) ++ [r] → ∀ Z : Addr, H4 Z = none → ∃ ys' z2 z3 z4 z5, [some (V.ref a), some (.ref p), some (.int i), some (.ref q), some (.str (gs r.1)), some (.int r.2)] = [some (.ref a), some (.ref p), z2, z3, z4, z5] ∧ Same H (upd (upd H4 Z (.tup [.str (gs r.1), .int r.2])) p (.lst (ys ++ [.ref Z]))) ∧
          upd (upd H4 Z (.tup [.str (gs r.1), .int r.2])) p (.lst (ys ++ [.ref Z])) p = some (.lst ys') ∧ RowsAt (upd (upd H4 Z (.tup [.str (gs r.1), .int r.2])) p (.lst (ys ++ [.ref Z]))) ys' (Bk.tidy (rs.take (i + 1))) := fun e Z hZ => by
        have npZ : Z ≠ p := fun z => by rw [z, hb4] at hZ; cases hZ
        have tps : Tps H4 (upd (upd H4 Z (.tup [.str (gs r.1), .int r.2])) p (.lst (ys ++ [.ref Z]))) := fun b xs e => by
          rw [upd_ne (fun z => by rw [z, hb4] at e; cases e), upd_ne (ne_of_none e hZ)]; exact e
        refine ⟨ys ++ [.ref Z], _, _, _, _, rfl, (sm4.trans (same_new hZ)).write hp, upd_same, ?_⟩
        rw [e]
        exact (hy4.mono tps).snoc ⟨Z, rfl, by rw [upd_ne npZ, upd_same]⟩
      rcases Bk.snoc_cases (Bk.tidy (rs.take i)) with e0 | ⟨bi, b, e0⟩
      · rw [e0] at hy4
        cases hy4
        refine iteF ?_
        refine ⟨_, rfl, _, _, rfl, rfl, _, rfl, ?_⟩
        refine ite2 (fun z => ?_) (fun z => ?_)
        · have z' : 0 < r.2 := of_decide_eq_true z
          refine ⟨_, rfl, .inl ⟨rfl, _, SqL.of hb4⟩, _, rfl, _, rfl, by show 2 ≤ sizeLine; decide, fun Z hZ => ?_⟩
          have npZ : p ≠ Z := fun w => by rw [← w, hb4] at hZ; cases hZ
          refine ⟨p, [], _, rfl, rfl, by rw [upd_ne npZ]; exact hb4, by decide, ?_⟩
          exact app (by rw [tk, e0, Bk.put_nil, if_pos z']; rfl) Z hZ
        · have z' : ¬ 0 < r.2 := fun y => z (decide_eq_true y)
          exact ⟨[], _, _, _, _, rfl, sm4, hb4, by rw [tk, e0, Bk.put_nil, if_neg z']; exact .nil⟩
      · rw [e0] at hy4
        obtain ⟨ws, v, rfl, hws, ⟨qb, rfl, hqb⟩⟩ := hy4.split
        refine ite2 (fun _ => ?_) (fun z => absurd (decide_eq_true (show (0 : Int) < ((ws ++ [V.ref qb]).length : Int) by simp)) z)
        have la : atI (ws ++ [V.ref qb]) (-1) = some (.ref qb) := atI_last ws (.ref qb)
        refine ⟨_, rfl, _, rfl, p, _, -1, _, rfl, rfl, SqL.of hb4, la, qb, _, 0, _, rfl, rfl, SqT.of hqb, rfl, _, rfl, rfl, _, rfl, ?_⟩
        refine ite2 (fun z => ?_) (fun z => ?_)
        · have z1 : V.str (gs b.1) = V.str (gs r.1) := of_decide_eq_true z
          have z2 : b.1 = r.1 := gs_inj.mp (V.str.inj z1)
          refine ⟨_, rfl, _, rfl, _, rfl, p, _, -1, _, rfl, rfl, SqL.of hb4, la, qb, _, 1, _, rfl, rfl, SqT.of hqb, rfl, _, rfl, _, _, rfl, rfl, by show 2 ≤ sizeLine; decide, fun Z hZ => ?_⟩
          have npZ : p ≠ Z := fun w => by rw [← w, hb4] at hZ; cases hZ
          have ix : ixN (ws ++ [V.ref qb]).length (-1) = some ws.length := by
            unfold ixN
            rw [if_neg (by decide), if_pos (by simp; omega)]
            congr 1
            simp; omega
          refine ⟨_, rfl, _, rfl, p, _, -1, ws.length, rfl, rfl, by rw [upd_ne npZ]; exact hb4, ix, ?_⟩
          have tps : Tps H4 (upd (upd H4 Z (.tup [.str (gs r.1), .int (b.2 + r.2)])) p (.lst ((ws ++ [V.ref qb]).set ws.length (.ref Z)))) := fun b xs e => by
            rw [upd_ne (fun z => by rw [z, hb4] at e; cases e), upd_ne (ne_of_none e hZ)]; exact e
          refine ⟨ws ++ [.ref Z], _, _, _, _, rfl, (sm4.trans (same_new hZ)).write hp, ?_, ?_⟩
          · rw [upd_same]; simp
          · rw [tk, e0, Bk.put_snoc, if_pos z2]
            exact (hws.mono tps).snoc ⟨Z, rfl, by rw [upd_ne npZ.symm, upd_same]⟩
        · have z2 : ¬ b.1 = r.1 := fun y => z (decide_eq_true (by rw [y]))
          refine ⟨_, rfl, _, _, rfl, rfl, _, rfl, ?_⟩
          refine ite2 (fun y => ?_) (fun y => ?_)
          · have z' : 0 < r.2 := of_decide_eq_true y
            refine ⟨_, rfl, .inl ⟨rfl, _, SqL.of hb4⟩, _, rfl, _, rfl, by show 2 ≤ sizeLine; decide, fun Z hZ => ?_⟩
            have npZ : p ≠ Z := fun w => by rw [← w, hb4] at hZ; cases hZ
            refine ⟨p, _, _, rfl, rfl, by rw [upd_ne npZ]; exact hb4, Nat.lt_of_le_of_lt ly (by decide), ?_⟩
            exact app (by rw [tk, e0, Bk.put_snoc, if_neg z2, if_pos z']) Z hZ
          · have z' : ¬ 0 < r.2 := fun w => y (decide_eq_true w)
            exact ⟨_, _, _, _, _, rfl, sm4, hb4, by rw [tk, e0, Bk.put_snoc, if_neg z2, if_neg z']; exact hy4⟩
    · rintro σ H2 ⟨ys, s2, s3, s4, s5, rfl, sm, hb, hy⟩
      refine ⟨_, rfl, k p ys H2 sm hp hb ?_⟩
      rw [hlen, List.take_length] at hy
      exact hy
end
end Q9
set_option Elab.async false
set_option linter.all false
set_option maxRecDepth 100000
namespace Q9
open PySem L2
abbrev sLen : Stmt := top 15
abbrev sSum : Stmt := top 16
abbrev sGof : Stmt := top 17
theorem tot_sum : ∀ rs : List Bk.Rw, (rs.map (·.2)).sum = Bk.tot rs
  | [] => rfl
  | r :: t => by simp [Bk.tot, tot_sum t]
theorem sm_sum (g : Bool) : ∀ rs : List Bk.Rw, ((rs.filter fun r => r.1 == g).map (·.2)).sum = Bk.sm g rs
  | [] => rfl
  | r :: t => by
    have := sm_sum g t
    by_cases h : r.1 = g
    · simp [Bk.sm, h, this]
    · simp [Bk.sm, h, this]
section
variable {P : Program} {w : World} {K : PySem.W.Frag} {mg : Str → Option Value} {base : Heap}
def spLen (K : PySem.W.Frag) : Sp := fun vs H Q _ => ∃ a xs rs, vs = [.ref a] ∧ SqL K H a xs ∧ RowsAt H xs rs ∧ rs.length ≤ 1000 ∧ ∀ H', Same H H' → Q (.int (Bk.tot rs)) H'
theorem scL : FnScope ["bank"] ["bank"] (defScope sLen) := ⟨rfl, rfl, rfl, by decide +kernel, rfl, by decide +kernel, by decide +kernel⟩
theorem ok_len {f : Addr} {fd : FuncData} (F : FunG K "length" "length" sLen f fd .none) (T : Py mg) : FnOk P w K mg base CX0 1 f fd ["bank"] (spLen K) := by
  refine F.ok scL (fun vs H Q E h => ?_) (fun cdv A outer s H vs Q E hr h => ?_)
  · obtain ⟨v, r, pl, rfl, _⟩ := h; rfl
  · obtain ⟨a, xs, rs, rfl, hS, hR, hl, k⟩ := h
    refine ⟨_, pss_one (ps_ret (pe_callB (call_sum rfl) rfl T.sum PyProof.Rows.boot_sum (pa_cons (pe_comp (Nc := ["stretch"]) (fv := [none]) ⟨rfl, by decide +kernel, rfl, by decide +kernel, trivial, by decide +kernel, rfl, trivial⟩ rfl (pi_list (pv 0))
      (fun _ _ _ _ _ => pg_name (i := 0) (show (["stretch"] : List Str).Nodup by decide +kernel) rfl (Or.inl rfl)) (fun _ _ _ _ _ => pif_nil) (fun _ _ _ _ _ => pe_ix (ix_tupK (K := K) rfl) (pv 0) pe_int (fun _ _ => rfl))) pa_nil))), ?_⟩
    have hlen := Paired.length hR
    refine ⟨_, rfl, a, rfl, ⟨_, hS⟩, fun p hp => ?_⟩
    refine comp_list (K := K) (a := a) (xs := xs) (fun i ys H2 => Same H H2 ∧ H2 p = some (.lst ys) ∧ ys = ((rs.take i).map (·.2)).map V.int) ⟨same_new hp, upd_same, rfl⟩ (fun i ys H2 h => ⟨h.1.seq hS, h.2.1⟩) ?_ ?_
    · rintro i x ys H2 hi hx ⟨sm, hy, rfl⟩
      obtain ⟨r, hr1, hr2⟩ := hR.get hx
      obtain ⟨q, rfl, hq⟩ := hr2.mono sm.tps
      refine ⟨(Wk.refl _).set rfl, yes ?_⟩
      refine ⟨_, rfl, q, _, 1, _, rfl, rfl, SqT.of hq, rfl, hy, ?_, nx hi ⟨sm.write hp, upd_same, ?_⟩⟩
      · refine Nat.lt_of_le_of_lt (m := 1000) ?_ (by decide)
        simp only [List.length_map, List.length_take]; omega
      · rw [take_snoc hr1]; simp
    · rintro ys H2 ⟨sm, hy, rfl⟩
      refine ⟨p, _, rfl, SqL.of hy, ?_⟩
      have : ((rs.take xs.length).map (·.2)).sum = Bk.tot rs := by rw [hlen, List.take_length, tot_sum]
      rw [this]
      exact k H2 sm
def spSum (K : PySem.W.Frag) : Sp := fun vs H Q _ => ∃ a xs rs g, vs = [.ref a, .str (gs g)] ∧ SqL K H a xs ∧ RowsAt H xs rs ∧ rs.length ≤ 1000 ∧ ∀ H', Same H H' → Q (.int (Bk.sm g rs)) H'
theorem scS : FnScope ["bank", "ground"] ["bank", "ground"] (defScope sSum) := ⟨rfl, rfl, rfl, by decide +kernel, rfl, by decide +kernel, by decide +kernel⟩
theorem ok_sum {f : Addr} {fd : FuncData} (F : FunG K "sum_of" "sum_of" sSum f fd .none) (T : Py mg) : FnOk P w K mg base CX0 1 f fd ["bank", "ground"] (spSum K) := by
  refine F.ok scS (fun vs H Q E h => ?_) (fun cdv A outer s H vs Q E hr h => ?_)
  · obtain ⟨v, r, pl, g, rfl, _⟩ := h; rfl
  · obtain ⟨a, xs, rs, g, rfl, hS, hR, hl, k⟩ := h
    refine ⟨_, pss_one (ps_ret (pe_callB (call_sum rfl) rfl T.sum PyProof.Rows.boot_sum (pa_cons (pe_comp (Nc := ["stretch", "ground"]) (fv := [none, some 1]) ⟨rfl, by decide +kernel, rfl, by decide +kernel, ⟨rfl, trivial⟩, rfl, rfl, ⟨⟨rfl, rfl, rfl, rfl⟩, trivial⟩⟩ rfl (pi_list (pv 0))
      (fun _ _ _ _ _ => pg_name (i := 0) (show (["stretch", "ground"] : List Str).Nodup by decide +kernel) rfl (Or.inl rfl))
      (fun _ _ _ _ _ => pif_one (pt_cmpR op_eq (pe_ix (ix_tupK (K := K) rfl) (pv 0) pe_int (fun _ _ => rfl)) (pv 1) (nomark _))) (fun _ _ _ _ _ => pe_ix (ix_tupK (K := K) rfl) (pv 0) pe_int (fun _ _ => rfl))) pa_nil))), ?_⟩
    have hlen := Paired.length hR
    refine ⟨_, rfl, a, rfl, ⟨_, hS⟩, fun p hp => ?_⟩
    refine comp_list (K := K) (a := a) (xs := xs) (fun i ys H2 => Same H H2 ∧ H2 p = some (.lst ys) ∧ ys = (((rs.take i).filter fun r => r.1 == g).map (·.2)).map V.int) ⟨same_new hp, upd_same, rfl⟩ (fun i ys H2 h => ⟨h.1.seq hS, h.2.1⟩) ?_ ?_
    · rintro i x ys H2 hi hx ⟨sm, hy, rfl⟩
      obtain ⟨r, hr1, hr2⟩ := hR.get hx
      obtain ⟨q, rfl, hq⟩ := hr2.mono sm.tps
      refine ⟨(Wk.refl _).set rfl, ?_⟩
      refine ⟨_, rfl, q, _, 0, _, rfl, rfl, SqT.of hq, rfl, _, rfl, rfl, _, rfl, ?_⟩
      refine ite2 (fun z => ?_) (fun z => ?_)
      · have z2 : r.1 = g := gs_inj.mp (V.str.inj (of_decide_eq_true z))
        refine ⟨_, rfl, q, _, 1, _, rfl, rfl, SqT.of hq, rfl, hy, ?_, nx hi ⟨sm.write hp, upd_same, ?_⟩⟩
        · refine Nat.lt_of_le_of_lt (m := 1000) ?_ (by decide)
          have h1 := List.length_filter_le (fun r : Bk.Rw => r.1 == g) (rs.take i)
          simp only [List.length_map, List.length_take] at h1 ⊢; omega
        · rw [take_snoc hr1]; simp [z2]
      · have z2 : ¬ r.1 = g := fun y => z (decide_eq_true (by rw [y]))
        exact nx hi ⟨sm, hy, by rw [take_snoc hr1]; simp [z2]⟩
    · rintro ys H2 ⟨sm, hy, rfl⟩
      refine ⟨p, _, rfl, SqL.of hy, ?_⟩
      have : (((rs.take xs.length).filter fun r => r.1 == g).map (·.2)).sum = Bk.sm g rs := by rw [hlen, List.take_length, sm_sum]
      rw [this]
      exact k H2 sm
def spGof (K : PySem.W.Frag) : Sp := fun vs H Q _ => ∃ a xs rs, vs = [.ref a] ∧ SqL K H a xs ∧ RowsAt H xs rs ∧ rs.length ≤ 1000 ∧ ∀ p H', Same H H' → H' p = some (.tup [.int (Bk.sm true rs), .int (Bk.sm false rs)]) → Q (.ref p) H'
theorem scGo : FnScope ["bank"] ["bank"] (defScope sGof) := ⟨rfl, rfl, rfl, by decide +kernel, rfl, by decide +kernel, by decide +kernel⟩
theorem ok_gof {f f1 : Addr} {fd fd1 : FuncData} (F : FunG K "ground_of" "ground_of" sGof f fd .none) (T : Py mg) (D1 : Df K mg "sum_of" sSum ["bank", "ground"] f1 fd1) : FnOk P w K mg base CX0 2 f fd ["bank"] (spGof K) := by
  have G1 : FnOk P w K mg base CX0 1 f1 fd1 ["bank", "ground"] (spSum K) := ok_sum D1.fn T
  refine F.ok scGo (fun vs H Q E h => ?_) (fun cdv A outer s H vs Q E hr h => ?_)
  · obtain ⟨v, r, pl, rfl, _⟩ := h; rfl
  · obtain ⟨a, xs, rs, rfl, hS, hR, hl, k⟩ := h
    obtain ⟨t1, d1⟩ := T.dry
    obtain ⟨t2, d2⟩ := T.wet
    refine ⟨_, pss_one (ps_ret (pe_tup (pa_cons (pe_call G1 hr rfl D1.gl D1.fn.kp D1.bd .nil pass0 (pa_cons (pv 0) (pa_cons (pe_glob (v := .str "dry") rfl d1 ⟨_, rfl⟩) pa_nil)))
      (pa_cons (pe_call G1 hr rfl D1.gl D1.fn.kp D1.bd .nil pass0 (pa_cons (pv 0) (pa_cons (pe_glob (v := .str "wet") rfl d2 ⟨_, rfl⟩) pa_nil))) pa_nil)))), ?_⟩
    refine ⟨_, rfl, a, xs, rs, true, rfl, hS, hR, hl, fun H1 s1 => ?_⟩
    refine ⟨_, rfl, a, xs, rs, false, rfl, s1.seq hS, hR.mono s1.tps, hl, fun H2 s2 => ?_⟩
    exact ⟨by show 2 ≤ sizeLine; decide, fun p hp => k p _ ((s1.trans s2).trans (same_new hp)) upd_same⟩
end
end Q9
set_option Elab.async false
set_option linter.all false
set_option maxRecDepth 100000
namespace Q9
open PySem L2
abbrev sCheck : Stmt := top 19
abbrev sPart : Stmt := top 20
abbrev sCut : Stmt := top 21

theorem min_eq (i j : Int) : (if j < i then j else i) = min i j := by split <;> omega
theorem max_eq (i j : Int) : (if j > i then j else i) = max i j := by split <;> omega
/-- a def with the defaults 0 and None behind its first parameter -/
structure DfD (K : PySem.W.Frag) (mg : Str → Option Value) (x : Str) (st : Stmt) (f : Addr) (fd : FuncData) : Prop where
  fn : ∃ dV, FunG K x x st f fd dV
  gl : mg x = some (.ref f)
  kp : PySem.W.keepIn K (.ref f) = true
  b0 : Binds K fd ["bank", "start", "end"] []
  b1 : Binds K fd ["bank", "start", "end"] [.none]
  b2 : ∃ t, Binds K fd ["bank", "start", "end"] [.int 0 t, .none]
section
variable {P : Program} {w : World} {K : PySem.W.Frag} {mg : Str → Option Value} {base : Heap}
def spPart (K : PySem.W.Frag) : Sp := fun vs H Q _ => ∃ a xs rs st e, vs = [.ref a, .int st, .int e] ∧ SqL K H a xs ∧ RowsAt H xs rs ∧ rs.length ≤ 1000 ∧
  ∀ p ys H', Same H H' → H p = none → H' p = some (.lst ys) → RowsAt H' ys (Bk.tidy (Bk.part 0 st e rs)) → Q (.ref p) H'
theorem scPt : FnScope ["bank", "start", "end", "rows", "begin", "ground", "long", "inside"] ["bank", "start", "end"] (defScope sPart) := ⟨rfl, rfl, rfl, by decide +kernel, rfl, by decide +kernel, by decide +kernel⟩
theorem ok_part {f f1 f2 f3 f4 : Addr} {fd fd1 fd2 fd3 fd4 : FuncData} (F : FunG K "part" "part" sPart f fd .none) (T : Py mg) (D1 : Df K mg "is_ground" sGround ["value"] f1 fd1) (D2 : Df K mg "is_whole" sWhole ["value"] f2 fd2)
    (D3 : Df K mg "refuse_wrong_row" sRefuse ["row", "place"] f3 fd3) (D4 : Df K mg "tidy" sTidy ["rows"] f4 fd4) : FnOk P w K mg base CX0 4 f fd ["bank", "start", "end"] (spPart K) := by
  have G4 : FnOk P w K mg base CX0 3 f4 fd4 ["rows"] (spTidy K) := ok_tidy D4.fn T D1 D2 D3
  refine F.ok scPt (fun vs H Q E h => ?_) (fun cdv A outer s H vs Q E hr h => ?_)
  · obtain ⟨v, r, pl, a, b, rfl, _⟩ := h; rfl
  · obtain ⟨a, xs, rs, st, e, rfl, hS, hR, hl, k⟩ := h
    refine ⟨_, pss_cons (ps_set (i := 3) scPt.nd rfl (Or.inl rfl) (pe_lst pa_nil))
      (pss_cons (ps_set (i := 4) scPt.nd rfl (Or.inl rfl) pe_int)
      (pss_cons (ps_for PassesOwn.never rfl (pi_list (pv 0)) (pg_tup rfl (pgs_cons (pg_name (i := 5) scPt.nd rfl (Or.inl rfl)) (pgs_cons (pg_name (i := 6) scPt.nd rfl (Or.inl rfl)) pgs_nil)))
        (pss_cons (ps_set (i := 7) scPt.nd rfl (Or.inl rfl) (pe_op op_sub (pe_callB (call_min2 rfl) rfl T.min PyProof.Rows.boot_min (pa_cons (pe_op op_add (pv 4) (pv 6)) (pa_cons (pv 2) pa_nil))) (pe_callB (call_max2 rfl) rfl T.max PyProof.Rows.boot_max (pa_cons (pv 4) (pa_cons (pv 1) pa_nil)))))
        (pss_cons (ps_expr (pe_bm PySem.F.plainAttrs_list PySem.F.slot_list_append PySem.F.type_list_append mt_append (pv 3) (pa_cons (pe_tup (pa_cons (pv 5) (pa_cons (pe_callB (call_max2 rfl) rfl T.max PyProof.Rows.boot_max (pa_cons (pv 7) (pa_cons pe_int pa_nil))) pa_nil))) pa_nil)))
        (pss_one (ps_set (i := 4) scPt.nd rfl (Or.inl rfl) (pe_op op_add (pv 4) (pv 6)))))))
      (pss_one (ps_ret (pe_call G4 hr rfl D4.gl D4.fn.kp D4.bd .nil pass0 (pa_cons (pv 3) pa_nil)))))), ?_⟩
    refine ⟨Nat.zero_le _, fun p hp => ?_⟩
    have hlen := Paired.length hR
    refine ⟨_, rfl, a, rfl, ⟨_, (same_new hp).seq hS⟩, for_list (K := K) (a := a) (xs := xs) (fun i σ H2 => ∃ ys s5 s6 s7, σ = [some (.ref a), some (.int st), some (.int e), some (.ref p), some (.int (Bk.tot (rs.take i))), s5, s6, s7] ∧ Same H H2 ∧ H2 p = some (.lst ys) ∧ RowsAt H2 ys (Bk.part 0 st e (rs.take i)))
      ⟨[], none, none, none, rfl, same_new hp, upd_same, .nil⟩ (fun i σ H2 _ ⟨_, _, _, _, _, s2, _⟩ => s2.seq hS) ?_ ?_⟩
    · rintro i x σ H2 hx ⟨ys, s5, s6, s7, rfl, sm, hb, hy⟩
      obtain ⟨r, hr1, hr2⟩ := hR.get hx
      obtain ⟨q, rfl, hq⟩ := hr2.mono sm.tps
      refine ⟨q, _, rfl, SqT.of hq, rfl, _, _, rfl, _, _, rfl, rfl, ?_⟩
      refine ⟨_, rfl, _, rfl, _, _, rfl, rfl, _, rfl, _, _, rfl, _, rfl, _, rfl, _, _, rfl, _, _, rfl, rfl, ?_⟩
      refine ⟨_, rfl, .inl ⟨rfl, _, SqL.of hb⟩, _, rfl, _, rfl, _, _, rfl, by show 2 ≤ sizeLine; decide, fun Z hZ => ?_⟩
      have npZ : p ≠ Z := fun w => by rw [← w, hb] at hZ; cases hZ
      have hlt : i < rs.length := (List.getElem?_eq_some_iff.mp hr1).1
      have ly : ys.length ≤ 1000 := by
        have h1 := Paired.length hy
        rw [Bk.part_length, List.length_take] at h1
        omega
      refine ⟨p, ys, _, rfl, rfl, by rw [upd_ne npZ]; exact hb, Nat.lt_of_le_of_lt ly (by decide), ?_⟩
      refine ⟨_, rfl, _, rfl, _, _, rfl, rfl, ?_⟩
      have e1 : Bk.tot (rs.take (i + 1)) = Bk.tot (rs.take i) + r.2 := by rw [take_snoc hr1, Bk.tot_append]; simp [Bk.tot]
      have tps : ∀ v : V, Tps H2 (upd (upd H2 Z (.tup [.str (gs r.1), v])) p (.lst (ys ++ [.ref Z]))) := fun v b xs e => by
        rw [upd_ne (fun z => by rw [z, hb] at e; cases e), upd_ne (ne_of_none e hZ)]; exact e
      refine ⟨ys ++ [.ref Z], _, _, _, by rw [e1]; rfl, (sm.trans (same_new hZ)).write hp, upd_same, ?_⟩
      rw [take_snoc hr1, Bk.part_append]
      refine (hy.mono (tps _)).snoc ⟨Z, rfl, ?_⟩
      rw [upd_ne npZ.symm, upd_same]
      simp only [min_eq, max_eq, Bk.clip]
      rw [show (0 : Int) + Bk.tot (rs.take i) = Bk.tot (rs.take i) by omega]
    · rintro σ H2 ⟨ys, s5, s6, s7, rfl, sm, hb, hy⟩
      rw [hlen, List.take_length] at hy
      refine ⟨_, rfl, p, ys, _, rfl, SqL.of hb, hy, Bk.part_nonneg _ _ _ _, by rw [Bk.part_length]; exact hl, fun p' ys' H' s' hp' h1 h2 => ?_⟩
      refine k p' ys' H' (sm.trans s') ?_ h1 h2
      exact sm.free hp'
/-- the end that is meant -/
def lastOf (v : V) (t : Int) : Int := match v with
  | .int e => e
  | _ => t
def EndV (v : V) : Prop := v = .non ∨ ∃ e, v = .int e
/-- is start, or the end, off the bank -/
def Off (st la t : Int) : Prop := st < 0 ∨ la < st ∨ t < la
def spCheck (K : PySem.W.Frag) (aO : Addr) : Sp := fun vs H Q E => ∃ a xs rs st ev, vs = [.ref a, .int st, ev] ∧ SqL K H a xs ∧ RowsAt H xs rs ∧ rs.length ≤ 1000 ∧ EndV ev ∧
  (Off st (lastOf ev (Bk.tot rs)) (Bk.tot rs) → ∀ H', Same H H' → E (.ref aO) none H') ∧ (¬ Off st (lastOf ev (Bk.tot rs)) (Bk.tot rs) → ∀ H', Same H H' → Q (.int (lastOf ev (Bk.tot rs))) H')
theorem scC : FnScope ["bank", "start", "end", "whole", "last"] ["bank", "start", "end"] (defScope sCheck) := ⟨rfl, rfl, rfl, by decide +kernel, rfl, by decide +kernel, by decide +kernel⟩
/-- the refusal OffBank as the top has made it -/
structure OffC (K : PySem.W.Frag) (mg : Str → Option Value) (aO : Addr) : Prop where
  gl : mg "OffBank" = some (.ref aO)
  ex : PySem.W.excIn K aO [.type "ValueError", .type "Exception", .type "BaseException", .type "object"] "ValueError.__new__" = true
theorem ok_check {f f1 aO : Addr} {fd fd1 : FuncData} (F : FunG K "checked_end" "checked_end" sCheck f fd .none) (T : Py mg) (O : OffC K mg aO) (D1 : Df K mg "length" sLen ["bank"] f1 fd1) : FnOk P w K mg base (CXE P w) 2 f fd ["bank", "start", "end"] (spCheck K aO) := by
  have G1 : FnOk P w K mg base CX0 1 f1 fd1 ["bank"] (spLen K) := ok_len D1.fn T
  refine F.okE scC (fun vs H Q E h => ?_) (fun cdv A outer s H vs Q E hr h => ?_)
  · obtain ⟨v, r, pl, a, b, rfl, _⟩ := h; rfl
  · obtain ⟨a, xs, rs, st, ev, rfl, hS, hR, hl, hev, kE, kQ⟩ := h
    refine ⟨_, pss_cons (ps_set (i := 3) scC.nd rfl (Or.inl rfl) (pe_call G1 hr rfl D1.gl D1.fn.kp D1.bd .nil pass0 (pa_cons (pv 0) pa_nil)))
      (pss_cons (ps_set (i := 4) scC.nd rfl (Or.inl rfl) (pe_ifExp (pt_cmpR op_isN (pv 2) pe_non (nomark _)) (pv 3) (pv 2)))
      (pss_cons (ps_if (PW.pt (pw_or (pt_cmpR op_lt (pv 1) pe_int (nomark _)) (pw_or (pt_cmpR op_lt (pv 4) (pv 1) (nomark _)) (pw_or1 (pt_cmpR op_gt (pv 4) (pv 3) (nomark _))))))
        (pss_one (ps_raise raises_of rfl PySem.F.excBase_ValueError O.ex rfl O.gl (pa_cons pe_str pa_nil))) pss_nil)
      (pss_one (ps_ret (pv 4))))), ?_⟩
    refine ⟨_, rfl, a, xs, rs, rfl, hS, hR, hl, fun H1 s1 => ?_⟩
    rcases hev with rfl | ⟨e, rfl⟩
    · refine ⟨_, rfl, rfl, true, rfl, iteT ⟨_, rfl, ?_⟩⟩
      refine ⟨_, rfl, _, _, rfl, rfl, _, rfl, ?_⟩
      refine ite2 (fun z => ?_) (fun z1 => ?_)
      · exact ⟨(by decide : 1 ≤ sizeLine), kE (.inl (of_decide_eq_true z)) H1 s1⟩
      refine ⟨_, rfl, _, rfl, _, _, rfl, rfl, _, rfl, ?_⟩
      refine ite2 (fun z => ?_) (fun z2 => ?_)
      · exact ⟨(by decide : 1 ≤ sizeLine), kE (.inr (.inl (of_decide_eq_true z))) H1 s1⟩
      refine ⟨_, rfl, _, rfl, _, _, rfl, rfl, _, rfl, ?_⟩
      refine ite2 (fun z => ?_) (fun z3 => ?_)
      · exact ⟨(by decide : 1 ≤ sizeLine), kE (.inr (.inr (of_decide_eq_true z))) H1 s1⟩
      refine ⟨_, rfl, kQ (fun z => ?_) H1 s1⟩
      rcases z with z | z | z
      · exact z1 (decide_eq_true z)
      · exact z2 (decide_eq_true z)
      · exact z3 (decide_eq_true z)
    · refine ⟨_, rfl, rfl, false, rfl, iteF ⟨_, rfl, ?_⟩⟩
      refine ⟨_, rfl, _, _, rfl, rfl, _, rfl, ?_⟩
      refine ite2 (fun z => ?_) (fun z1 => ?_)
      · exact ⟨(by decide : 1 ≤ sizeLine), kE (.inl (of_decide_eq_true z)) H1 s1⟩
      refine ⟨_, rfl, _, rfl, _, _, rfl, rfl, _, rfl, ?_⟩
      refine ite2 (fun z => ?_) (fun z2 => ?_)
      · exact ⟨(by decide : 1 ≤ sizeLine), kE (.inr (.inl (of_decide_eq_true z))) H1 s1⟩
      refine ⟨_, rfl, _, rfl, _, _, rfl, rfl, _, rfl, ?_⟩
      refine ite2 (fun z => ?_) (fun z3 => ?_)
      · exact ⟨(by decide : 1 ≤ sizeLine), kE (.inr (.inr (of_decide_eq_true z))) H1 s1⟩
      refine ⟨_, rfl, kQ (fun z => ?_) H1 s1⟩
      rcases z with z | z | z
      · exact z1 (decide_eq_true z)
      · exact z2 (decide_eq_true z)
      · exact z3 (decide_eq_true z)

/-! cut_out: as checked_end refuses; else what lies there -/
def spCut (K : PySem.W.Frag) (aO : Addr) : Sp := fun vs H Q E => ∃ a xs rs st ev, vs = [.ref a, .int st, ev] ∧ SqL K H a xs ∧ RowsAt H xs rs ∧ rs.length ≤ 1000 ∧ EndV ev ∧
  (Off st (lastOf ev (Bk.tot rs)) (Bk.tot rs) → ∀ H', Same H H' → E (.ref aO) none H') ∧
  (¬ Off st (lastOf ev (Bk.tot rs)) (Bk.tot rs) → ∀ p ys H', Same H H' → H p = none → H' p = some (.lst ys) → RowsAt H' ys (Bk.tidy (Bk.part 0 st (lastOf ev (Bk.tot rs)) rs)) → Q (.ref p) H')
theorem scCu : FnScope ["bank", "start", "end", "last"] ["bank", "start", "end"] (defScope sCut) := ⟨rfl, rfl, rfl, by decide +kernel, rfl, by decide +kernel, by decide +kernel⟩
theorem ok_cut {f f1 f2 f3 f4 f5 f6 f7 aO : Addr} {fd fd1 fd2 fd3 fd4 fd5 fd6 fd7 : FuncData} {dV : Value} (F : FunG K "cut_out" "cut_out" sCut f fd dV) (T : Py mg) (O : OffC K mg aO) (D1 : Df K mg "is_ground" sGround ["value"] f1 fd1) (D2 : Df K mg "is_whole" sWhole ["value"] f2 fd2)
    (D3 : Df K mg "refuse_wrong_row" sRefuse ["row", "place"] f3 fd3) (D4 : Df K mg "tidy" sTidy ["rows"] f4 fd4) (D5 : Df K mg "part" sPart ["bank", "start", "end"] f5 fd5) (D6 : Df K mg "length" sLen ["bank"] f6 fd6) (D7 : Df K mg "checked_end" sCheck ["bank", "start", "end"] f7 fd7) :
    FnOk P w K mg base (CXE P w) 5 f fd ["bank", "start", "end"] (spCut K aO) := by
  have G5 : FnOk P w K mg base CX0 4 f5 fd5 ["bank", "start", "end"] (spPart K) := ok_part D5.fn T D1 D2 D3 D4
  have G7 : FnOk P w K mg base (CXE P w) 2 f7 fd7 ["bank", "start", "end"] (spCheck K aO) := ok_check D7.fn T O D6
  refine F.okE scCu (fun vs H Q E h => ?_) (fun cdv A outer s H vs Q E hr h => ?_)
  · obtain ⟨v, r, pl, a, b, rfl, _⟩ := h; rfl
  · obtain ⟨a, xs, rs, st, ev, rfl, hS, hR, hl, hev, kE, kQ⟩ := h
    refine ⟨_, pss_cons (ps_set (i := 3) scCu.nd rfl (Or.inl rfl) (pe_call G7 (hr.mono (by decide)) rfl D7.gl D7.fn.kp D7.bd .nil pass_on (pa_cons (pv 0) (pa_cons (pv 1) (pa_cons (pv 2) pa_nil)))))
      (pss_one (ps_ret (pe_call G5 hr rfl D5.gl D5.fn.kp D5.bd .nil pass0 (pa_cons (pv 0) (pa_cons (pv 1) (pa_cons (pv 3) pa_nil)))))), ?_⟩
    refine ⟨_, rfl, _, rfl, _, rfl, a, xs, rs, st, ev, rfl, hS, hR, hl, hev, kE, fun no H1 s1 => ?_⟩
    refine ⟨_, rfl, _, rfl, _, rfl, a, xs, rs, st, _, rfl, s1.seq hS, hR.mono s1.tps, hl, fun p ys H2 s2 hp h1 h2 => ?_⟩
    exact kQ no p ys H2 (s1.trans s2) (s1.free hp) h1 h2
end
end Q9

set_option linter.all false
/-! there is a half place -/
namespace Bk
theorem half_from {rs : List Rw} (f : Nat → Int) (hf : ∀ i : Nat, f i = 0 ↔ over true rs (tot rs / 2) i = 0) (ht : 0 ≤ tot rs)
    (h : ∃ p : Nat, p ≤ (tot rs / 2).toNat ∧ f p = 0 ∧ ∀ i, i < p → f i ≠ 0) : ∃ p, IsHalf rs p := by
  obtain ⟨p, h1, h2, h3⟩ := h
  refine ⟨p, by omega, by omega, (hf p).mp h2, fun x hx hxp => ?_⟩
  have e : x = ((x.toNat : Nat) : Int) := by omega
  rw [e]
  exact fun z => h3 x.toNat (by omega) ((hf _).mpr z)
theorem has_half (rs : List Rw) (hp : ∀ r ∈ rs, 0 < r.2) (ev : ∀ g, sm g rs % 2 = 0) : ∃ p, IsHalf rs p := by
  have h0 : ∀ r ∈ rs, 0 ≤ r.2 := fun r hr => Int.le_of_lt (hp r hr)
  have ht := tot_nonneg rs h0
  have hts := tot_sm rs
  have e1 := ev true
  have e2 := ev false
  have h2 : tot rs = 2 * (tot rs / 2) := by omega
  have even : ∀ x : Int, over true rs (tot rs / 2) x % 2 = 0 := fun x => by unfold over; omega
  have ends : over true rs (tot rs / 2) 0 + over true rs (tot rs / 2) (tot rs / 2) = 0 := by
    unfold over
    have a1 := cum_low true 0 rs 0 h0 (Int.le_refl _)
    have a2 := cum_high true (tot rs / 2 + tot rs / 2) rs 0 h0 (by omega)
    rw [Int.zero_add] at *
    omega
  have step : ∀ i : Nat, _ := fun i : Nat => over_step true rs (tot rs / 2) (i : Int) h0
  have en : (((tot rs / 2).toNat : Nat) : Int) = tot rs / 2 := by omega
  by_cases z : 0 < over true rs (tot rs / 2) 0
  · refine half_from (fun i => over true rs (tot rs / 2) i / 2) (fun i => by have := even i; omega) ht (zero_first _ _ (fun i _ => ?_) ?_ ?_)
    · have h3 := (step i).1
      have h4 := even i
      have h5 := even ((i : Int) + 1)
      show over true rs (tot rs / 2) i / 2 - over true rs (tot rs / 2) ((i + 1 : Nat) : Int) / 2 ≤ 1
      rw [Int.natCast_add]
      show over true rs (tot rs / 2) i / 2 - over true rs (tot rs / 2) ((i : Int) + 1) / 2 ≤ 1
      omega
    · have := even 0
      show 0 < over true rs (tot rs / 2) ((0 : Nat) : Int) / 2
      show 0 < over true rs (tot rs / 2) 0 / 2
      omega
    · show over true rs (tot rs / 2) (((tot rs / 2).toNat : Nat) : Int) / 2 ≤ 0
      rw [en]
      omega
  · by_cases z0 : over true rs (tot rs / 2) 0 = 0
    · exact ⟨0, by decide, by omega, z0, fun x h1 h2 => by omega⟩
    · refine half_from (fun i => - (over true rs (tot rs / 2) i / 2)) (fun i => by have := even i; omega) ht (zero_first _ _ (fun i _ => ?_) ?_ ?_)
      · have h3 := (step i).2
        have h4 := even i
        have h5 := even ((i : Int) + 1)
        show - (over true rs (tot rs / 2) i / 2) - - (over true rs (tot rs / 2) ((i + 1 : Nat) : Int) / 2) ≤ 1
        rw [Int.natCast_add]
        show - (over true rs (tot rs / 2) i / 2) - - (over true rs (tot rs / 2) ((i : Int) + 1) / 2) ≤ 1
        omega
      · have := even 0
        show 0 < - (over true rs (tot rs / 2) ((0 : Nat) : Int) / 2)
        show 0 < - (over true rs (tot rs / 2) 0 / 2)
        omega
      · show - (over true rs (tot rs / 2) (((tot rs / 2).toNat : Nat) : Int) / 2) ≤ 0
        rw [en]
        omega
end Bk

set_option linter.all false
/-! two rows side by side, and the walk to the half place -/
namespace Bk
/-- two rows of named longs, run by run -/
def sbs {α β : Type} : List (α × Int) → List (β × Int) → List (α × β × Int)
  | [], _ => []
  | _ :: _, [] => []
  | (a, l) :: r, (b, m) :: s =>
    (a, b, min l m) :: (if m < l then sbs ((a, l - m) :: r) s else if l < m then sbs r ((b, m - l) :: s) else sbs r s)
termination_by x y => x.length + y.length
theorem sbs_nil {α β : Type} (y : List (β × Int)) : sbs ([] : List (α × Int)) y = [] := by unfold sbs; rfl
theorem sbs_cons {α β : Type} (a : α) (l : Int) (r : List (α × Int)) (b : β) (m : Int) (s : List (β × Int)) : sbs ((a, l) :: r) ((b, m) :: s) =
    (a, b, min l m) :: (if m < l then sbs ((a, l - m) :: r) s else if l < m then sbs r ((b, m - l) :: s) else sbs r s) := by
  rw [sbs]
theorem sbs_map {α β γ δ : Type} (f : α → γ) (g : β → δ) : ∀ (n : Nat) (x : List (α × Int)) (y : List (β × Int)), x.length + y.length ≤ n → sbs (x.map fun p => (f p.1, p.2)) (y.map fun p => (g p.1, p.2)) = (sbs x y).map fun p => (f p.1, g p.2.1, p.2.2)
  | _, [], y, _ => by simp [sbs_nil]
  | _, p :: x, [], _ => by simp [sbs]
  | 0, p :: x, q :: y, h => by simp at h
  | n + 1, (a, l) :: x, (b, m) :: y, h => by
    simp only [List.length_cons] at h
    simp only [List.map_cons]
    rw [sbs_cons, sbs_cons]
    simp only [List.map_cons]
    congr 1
    have i1 := sbs_map f g n ((a, l - m) :: x) y (by simp only [List.length_cons]; omega)
    have i2 := sbs_map f g n x ((b, m - l) :: y) (by simp only [List.length_cons]; omega)
    have i3 := sbs_map f g n x y (by omega)
    simp only [List.map_cons] at i1 i2
    split
    · exact i1
    · split
      · exact i2
      · exact i3
/-- a named row's sum -/
def ntot {α : Type} : List (α × Int) → Int
  | [] => 0
  | p :: t => p.2 + ntot t
def gain (a b : Bool) : Int := (if b = true then 1 else 0) - (if a = true then 1 else 0)
def rtot : List (Bool × Bool × Int) → Int
  | [] => 0
  | p :: t => p.2.2 + rtot t
def cumR (x : Int) : Int → List (Bool × Bool × Int) → Int
  | _, [] => 0
  | b, p :: t => gain p.1 p.2.1 * max (min p.2.2 (x - b)) 0 + cumR x (b + p.2.2) t
theorem ntot_pos {α : Type} : ∀ rs : List (α × Int), (∀ r ∈ rs, 0 < r.2) → 0 ≤ ntot rs
  | [], _ => by simp [ntot]
  | r :: t, h => by
    have := ntot_pos t (fun y hy => h y (by simp [hy]))
    have := h r (by simp)
    simp only [ntot]; omega
theorem gain_mul (a b : Bool) (x : Int) : gain a b * x = (if b = true then x else 0) - (if a = true then x else 0) := by
  unfold gain
  cases a <;> cases b <;> simp
theorem clip_split {l m y : Int} (h0 : 0 < m) (h : m ≤ l) : max (min l y) 0 = max (min m y) 0 + max (min (l - m) (y - m)) 0 := by omega
theorem cumR_sbs (x : Int) : ∀ (n : Nat) (u v : List Rw) (b : Int), u.length + v.length ≤ n → (∀ r ∈ u, 0 < r.2) → (∀ r ∈ v, 0 < r.2) → tot u = tot v → cum true x b v - cum true x b u = cumR x b (sbs u v)
  | _, [], v, b, _, _, hv, ht => by
    cases v with
    | nil => simp [sbs_nil, cumR, cum]
    | cons q v =>
      have h1 := hv q (by simp)
      have h2 := tot_nonneg v (fun y hy => Int.le_of_lt (hv y (by simp [hy])))
      simp only [tot] at ht; omega
  | _, p :: u, [], b, _, hu, _, ht => by
    have h1 := hu p (by simp)
    have h2 := tot_nonneg u (fun y hy => Int.le_of_lt (hu y (by simp [hy])))
    simp only [tot] at ht; omega
  | 0, p :: u, q :: v, b, h, _, _, _ => by simp at h
  | n + 1, (a, l) :: u, (c, m) :: v, b, h, hu, hv, ht => by
    simp only [List.length_cons] at h
    have hl : 0 < l := hu (a, l) (by simp)
    have hm : 0 < m := hv (c, m) (by simp)
    have hu' : ∀ r ∈ u, 0 < r.2 := fun y hy => hu y (by simp [hy])
    have hv' : ∀ r ∈ v, 0 < r.2 := fun y hy => hv y (by simp [hy])
    simp only [tot] at ht
    rw [sbs_cons]
    simp only [cumR, gain_mul, cum]
    by_cases z : m < l
    · rw [if_pos z]
      have ih := cumR_sbs x n ((a, l - m) :: u) v (b + m) (by simp only [List.length_cons]; omega) (fun r hr => by
        rcases List.mem_cons.mp hr with e | e
        · rw [e]; show 0 < l - m; omega
        · exact hu' r e) hv' (by simp only [tot]; omega)
      simp only [cum] at ih
      have e1 : b + m + (l - m) = b + l := by omega
      have e2 : min l m = m := by omega
      rw [e1] at ih
      have cs := clip_split (l := l) (m := m) (y := x - b) hm (by omega)
      rw [show x - b - m = x - (b + m) by omega] at cs
      rw [e2, ← ih, cs]
      generalize max (min m (x - b)) 0 = p, max (min (l - m) (x - (b + m))) 0 = q, cum true x (b + m) v = c1, cum true x (b + l) u = c2
      clear cs ih e1 e2 hu hv hu' hv' ht
      split <;> split <;> omega
    · rw [if_neg z]
      by_cases z : l < m
      · rw [if_pos z]
        have ih := cumR_sbs x n u ((c, m - l) :: v) (b + l) (by simp only [List.length_cons]; omega) hu' (fun r hr => by
          rcases List.mem_cons.mp hr with e | e
          · rw [e]; show 0 < m - l; omega
          · exact hv' r e) (by simp only [tot]; omega)
        simp only [cum] at ih
        have e1 : b + l + (m - l) = b + m := by omega
        have e2 : min l m = l := by omega
        rw [e1] at ih
        have cs := clip_split (l := m) (m := l) (y := x - b) hl (by omega)
        rw [show x - b - l = x - (b + l) by omega] at cs
        rw [e2, ← ih, cs]
        generalize max (min l (x - b)) 0 = p, max (min (m - l) (x - (b + l))) 0 = q, cum true x (b + m) v = c1, cum true x (b + l) u = c2
        clear cs ih e1 e2 hu hv hu' hv' ht
        split <;> split <;> omega
      · rw [if_neg z]
        have e : l = m := by omega
        subst e
        have ih := cumR_sbs x n u v (b + l) (by omega) hu' hv' (by omega)
        have e2 : min l l = l := by omega
        rw [e2, ← ih]
        generalize max (min l (x - b)) 0 = p, cum true x (b + l) v = c1, cum true x (b + l) u = c2
        clear ih e2 hu hv hu' hv' ht
        split <;> split <;> omega
theorem sbs_tot : ∀ (n : Nat) (u v : List Rw), u.length + v.length ≤ n → (∀ r ∈ u, 0 < r.2) → (∀ r ∈ v, 0 < r.2) → tot u = tot v → rtot (sbs u v) = tot u ∧ ∀ p ∈ sbs u v, 0 < p.2.2
  | _, [], v, _, _, hv, ht => by simp [sbs_nil, rtot, tot]
  | _, p :: u, [], _, hu, _, ht => by
    have h1 := hu p (by simp)
    have h2 := tot_nonneg u (fun y hy => Int.le_of_lt (hu y (by simp [hy])))
    simp only [tot] at ht; omega
  | 0, p :: u, q :: v, h, _, _, _ => by simp at h
  | n + 1, (a, l) :: u, (c, m) :: v, h, hu, hv, ht => by
    simp only [List.length_cons] at h
    have hl : 0 < l := hu (a, l) (by simp)
    have hm : 0 < m := hv (c, m) (by simp)
    have hu' : ∀ r ∈ u, 0 < r.2 := fun y hy => hu y (by simp [hy])
    have hv' : ∀ r ∈ v, 0 < r.2 := fun y hy => hv y (by simp [hy])
    simp only [tot] at ht
    rw [sbs_cons]
    simp only [rtot, tot]
    by_cases z : m < l
    · rw [if_pos z]
      obtain ⟨ih, i2⟩ := sbs_tot n ((a, l - m) :: u) v (by simp only [List.length_cons]; omega) (fun r hr => by
        rcases List.mem_cons.mp hr with e | e
        · rw [e]; show 0 < l - m; omega
        · exact hu' r e) hv' (by simp only [tot]; omega)
      simp only [tot] at ih
      refine ⟨by omega, fun p hp => ?_⟩
      rcases List.mem_cons.mp hp with e | e
      · rw [e]; show 0 < min l m; omega
      · exact i2 p e
    · rw [if_neg z]
      by_cases z : l < m
      · rw [if_pos z]
        obtain ⟨ih, i2⟩ := sbs_tot n u ((c, m - l) :: v) (by simp only [List.length_cons]; omega) hu' (fun r hr => by
          rcases List.mem_cons.mp hr with e | e
          · rw [e]; show 0 < m - l; omega
          · exact hv' r e) (by simp only [tot]; omega)
        refine ⟨by omega, fun p hp => ?_⟩
        rcases List.mem_cons.mp hp with e | e
        · rw [e]; show 0 < min l m; omega
        · exact i2 p e
      · rw [if_neg z]
        obtain ⟨ih, i2⟩ := sbs_tot n u v (by omega) hu' hv' (by omega)
        refine ⟨by omega, fun p hp => ?_⟩
        rcases List.mem_cons.mp hp with e | e
        · rw [e]; show 0 < min l m; omega
        · exact i2 p e
theorem rtot_append : ∀ a b : List (Bool × Bool × Int), rtot (a ++ b) = rtot a + rtot b
  | [], b => by simp [rtot]
  | p :: a, b => by simp only [List.cons_append, rtot, rtot_append a b]; omega
theorem rtot_nn : ∀ a : List (Bool × Bool × Int), (∀ p ∈ a, 0 < p.2.2) → 0 ≤ rtot a
  | [], _ => by simp [rtot]
  | p :: a, h => by
    have := rtot_nn a (fun y hy => h y (by simp [hy]))
    have := h p (by simp)
    simp only [rtot]; omega
theorem cumR_low (x : Int) : ∀ (R : List (Bool × Bool × Int)) (b : Int), (∀ p ∈ R, 0 < p.2.2) → x ≤ b → cumR x b R = 0
  | [], _, _, _ => rfl
  | p :: R, b, h, hb => by
    have h1 := h p (by simp)
    have ih := cumR_low x R (b + p.2.2) (fun y hy => h y (by simp [hy])) (by omega)
    have e : max (min p.2.2 (x - b)) 0 = 0 := by omega
    simp only [cumR, ih, e]; omega
theorem cumR_append (x : Int) : ∀ (A B : List (Bool × Bool × Int)) (b : Int), cumR x b (A ++ B) = cumR x b A + cumR x (b + rtot A) B
  | [], B, b => by simp [cumR, rtot]
  | p :: A, B, b => by
    have ih := cumR_append x A B (b + p.2.2)
    simp only [List.cons_append, cumR, rtot, ih]
    rw [show b + p.2.2 + rtot A = b + (p.2.2 + rtot A) by omega]
    omega
theorem cumR_high (x y : Int) : ∀ (R : List (Bool × Bool × Int)) (b : Int), (∀ p ∈ R, 0 < p.2.2) → b + rtot R ≤ x → b + rtot R ≤ y → cumR x b R = cumR y b R
  | [], _, _, _, _ => rfl
  | p :: R, b, h, hx, hy => by
    have h1 := h p (by simp)
    have h' : ∀ y ∈ R, 0 < y.2.2 := fun y hy => h y (by simp [hy])
    have h2 := rtot_nn R h'
    simp only [rtot] at hx hy
    have ih := cumR_high x y R (b + p.2.2) h' (by omega) (by omega)
    have e : max (min p.2.2 (x - b)) 0 = max (min p.2.2 (y - b)) 0 := by omega
    simp only [cumR, ih, e]
/-- within one run it goes straight -/
theorem cumR_run (A B : List (Bool × Bool × Int)) (p : Bool × Bool × Int) (y : Int) (h : ∀ q ∈ A ++ p :: B, 0 < q.2.2) (h0 : 0 ≤ y) (h1 : y ≤ p.2.2) : cumR (rtot A + y) 0 (A ++ p :: B) = cumR (rtot A) 0 (A ++ p :: B) + gain p.1 p.2.1 * y := by
  have hA : ∀ q ∈ A, 0 < q.2.2 := fun q hq => h q (by simp [hq])
  have hB : ∀ q ∈ B, 0 < q.2.2 := fun q hq => h q (by simp [hq])
  have hp : 0 < p.2.2 := h p (by simp)
  rw [cumR_append, cumR_append, cumR_high (rtot A + y) (rtot A) A 0 hA (by omega) (by omega)]
  simp only [cumR]
  rw [cumR_low (rtot A + y) B _ hB (by omega), cumR_low (rtot A) B _ hB (by omega)]
  have e1 : max (min p.2.2 (rtot A + y - (0 + rtot A))) 0 = y := by omega
  have e2 : max (min p.2.2 (rtot A - (0 + rtot A))) 0 = 0 := by omega
  rw [e1, e2]
  omega
/-! cum of what is cut out -/
theorem clip_cum (b l s e x : Int) (hl : 0 ≤ l) (hx : 0 ≤ x) (hse : s ≤ e) : max (min (clip b l s e) (x - max (min b e - s) 0)) 0 = max (min l (min (s + x) e - b)) 0 - max (min l (s - b)) 0 := by
  rw [← clip_two b l s (min (s + x) e) hl (by omega)]
  unfold clip
  by_cases h1 : e ≤ b
  · rw [show max (min (b + l) e - max b s) 0 = 0 by omega, show max (min (b + l) (min (s + x) e) - max b s) 0 = 0 by omega]; omega
  · by_cases h3 : s ≤ b
    · rw [show max b s = b by omega, show max (min b e - s) 0 = b - s by omega, show min (b + l) (min (s + x) e) = min (min (b + l) e) (s + x) by omega]
      generalize hu : min (b + l) e = u
      have : b ≤ u := by omega
      omega
    · rw [show max b s = s by omega, show max (min b e - s) 0 = 0 by omega, show min (b + l) (min (s + x) e) = min (min (b + l) e) (s + x) by omega]
      generalize min (b + l) e = u
      omega
theorem cum_part (g : Bool) (x s e : Int) (hx : 0 ≤ x) (hse : s ≤ e) : ∀ (rs : List Rw) (b : Int), (∀ r ∈ rs, 0 ≤ r.2) → cum g x (max (min b e - s) 0) (part b s e rs) = cum g (min (s + x) e) b rs - cum g s b rs
  | [], b, _ => by simp [part, cum]
  | r :: t, b, h => by
    have hr := h r (by simp)
    have ih := cum_part g x s e hx hse t (b + r.2) (fun y hy => h y (by simp [hy]))
    simp only [part, cum]
    have e1 : max (min b e - s) 0 + clip b r.2 s e = max (min (b + r.2) e - s) 0 := by unfold clip; omega
    have e2 := clip_cum b r.2 s e x hr hx hse
    rw [e1, ih, e2]
    split
    · generalize max (min r.2 (min (s + x) e - b)) 0 = u, max (min r.2 (s - b)) 0 = v
      omega
    · omega
theorem cum_put (g : Bool) (x : Int) (bs : List Rw) (r : Rw) (h : 0 ≤ r.2) (hb : ∀ q ∈ bs, 0 ≤ q.2) : cum g x 0 (put bs r) = cum g x 0 (bs ++ [r]) := by
  rcases snoc_cases bs with rfl | ⟨i, b, rfl⟩
  · rw [put_nil]
    split
    · rfl
    · rename_i z
      have e : r.2 = 0 := by omega
      simp only [List.nil_append, cum, e]
      split <;> omega
  · rw [put_snoc]
    have hb0 := hb b (by simp)
    split
    · rename_i e
      rw [cum_append, cum_append, cum_append]
      simp only [cum, tot_append, tot]
      rw [e]
      have ca := clip_add (y := x - (0 + tot i)) hb0 h
      rw [show x - (0 + tot i) - b.2 = x - (0 + (tot i + (b.2 + 0))) by omega] at ca
      rw [ca]
      generalize max (min b.2 (x - (0 + tot i))) 0 = u, max (min r.2 (x - (0 + (tot i + (b.2 + 0))))) 0 = v
      split <;> omega
    · split
      · rfl
      · rename_i z
        have e : r.2 = 0 := by omega
        rw [cum_append g x (i ++ [b]) [r]]
        simp only [cum, e]
        split <;> omega
theorem cum_fold (g : Bool) (x : Int) : ∀ (rs acc : List Rw), (∀ r ∈ rs, 0 ≤ r.2) → Alt acc → (∀ r ∈ acc, 0 < r.2) → cum g x 0 (rs.foldl put acc) = cum g x 0 (acc ++ rs)
  | [], acc, _, _, _ => by simp
  | r :: t, acc, h, al, ha => by
    have hr := h r (by simp)
    obtain ⟨a1, p1⟩ := put_good hr al ha
    have ih := cum_fold g x t (put acc r) (fun q hq => h q (by simp [hq])) a1 p1
    rw [List.foldl_cons, ih, cum_append, cum_put g x acc r hr (fun q hq => Int.le_of_lt (ha q hq))]
    have e : tot (put acc r) = tot (acc ++ [r]) := by
      rw [tot_sm, tot_sm, sm_put true acc r hr, sm_put false acc r hr, sm_append, sm_append]
      simp only [sm]
      omega
    rw [e, ← cum_append]
    simp
theorem cum_tidy (g : Bool) (x : Int) (rs : List Rw) (h : ∀ r ∈ rs, 0 ≤ r.2) : cum g x 0 (tidy rs) = cum g x 0 rs := by
  have := cum_fold g x rs [] h True.intro (by simp)
  simpa [tidy] using this
end Bk
namespace L2
open Bk
variable {rs : List Rw}
theorem cum_cut (g : Bool) {x s e : Int} (hx : 0 ≤ x) (hs : 0 ≤ s) (hse : s ≤ e) (h0 : ∀ r ∈ rs, 0 ≤ r.2) : cum g x 0 (cutR rs s e) = cum g (min (s + x) e) 0 rs - cum g s 0 rs := by
  unfold cutR
  rw [cum_tidy g x _ (part_nonneg _ _ _ _)]
  have h := cum_part g x s e hx hse rs 0 h0
  rw [show max (min 0 e - s) 0 = 0 by omega] at h
  exact h
theorem cut_tot {s e : Int} (hs : 0 ≤ s) (hse : s ≤ e) (he : e ≤ tot rs) (h0 : ∀ r ∈ rs, 0 ≤ r.2) : tot (cutR rs s e) = e - s := by
  have a := cut_sm true hse h0
  have b := cut_sm false hse h0
  have c1 := cum_both s rs 0 h0
  have c2 := cum_both e rs 0 h0
  have t := tot_sm (cutR rs s e)
  omega
/-- the walk of half_place: F is how much too much, along the runs -/
theorem over_runs (hp : ∀ r ∈ rs, 0 < r.2) (ev : ∀ g, sm g rs % 2 = 0) {x : Int} (hx : 0 ≤ x) (hxe : x ≤ tot rs / 2) :
    over true rs (tot rs / 2) x = over true rs (tot rs / 2) 0 + 2 * cumR x 0 (sbs (cutR rs 0 (tot rs / 2)) (cutR rs (tot rs / 2) (tot rs))) := by
  have h0 : ∀ r ∈ rs, 0 ≤ r.2 := fun r hr => Int.le_of_lt (hp r hr)
  have ht := tot_nonneg rs h0
  have hts := tot_sm rs
  have e1 := ev true
  have e2 := ev false
  have t1 := cut_tot (rs := rs) (s := 0) (e := tot rs / 2) (Int.le_refl _) (by omega) (by omega) h0
  have t2 := cut_tot (rs := rs) (s := tot rs / 2) (e := tot rs) (by omega) (by omega) (by omega) h0
  rw [← cumR_sbs x _ _ _ 0 (Nat.le_refl _) (cut_good _ _).2 (cut_good _ _).2 (by omega), cum_cut true hx (Int.le_refl _) (by omega) h0, cum_cut true hx (by omega) (by omega) h0]
  unfold over
  have a1 := cum_low true 0 rs 0 h0 (Int.le_refl _)
  rw [show min (0 + x) (tot rs / 2) = x by omega, show min (tot rs / 2 + x) (tot rs) = x + tot rs / 2 by omega, show (0 : Int) + tot rs / 2 = tot rs / 2 by omega]
  omega
def runsOf (rs : List Rw) : List (Bool × Bool × Int) := sbs (cutR rs 0 (tot rs / 2)) (cutR rs (tot rs / 2) (tot rs))
theorem runs_facts (hp : ∀ r ∈ rs, 0 < r.2) (ev : ∀ g, sm g rs % 2 = 0) : rtot (runsOf rs) = tot rs / 2 ∧ ∀ p ∈ runsOf rs, 0 < p.2.2 := by
  have h0 : ∀ r ∈ rs, 0 ≤ r.2 := fun r hr => Int.le_of_lt (hp r hr)
  have ht := tot_nonneg rs h0
  have hts := tot_sm rs
  have e1 := ev true
  have e2 := ev false
  have t1 := cut_tot (rs := rs) (s := 0) (e := tot rs / 2) (Int.le_refl _) (by omega) (by omega) h0
  have t2 := cut_tot (rs := rs) (s := tot rs / 2) (e := tot rs) (by omega) (by omega) (by omega) h0
  have h := sbs_tot _ (cutR rs 0 (tot rs / 2)) (cutR rs (tot rs / 2) (tot rs)) (Nat.le_refl _) (cut_good _ _).2 (cut_good _ _).2 (by omega)
  exact ⟨by show rtot (sbs _ _) = _; omega, h.2⟩
/-- one step of the walk -/
structure Wlk (rs : List Rw) (p : Int) (i : Nat) (ov pl : Int) : Prop where
  nn : 0 ≤ pl
  le : pl ≤ p
  val : 2 * ov = over true rs (tot rs / 2) pl
  at_ : pl = rtot ((runsOf rs).take i) ∨ pl = p
theorem Wlk.stop {p : Int} {i : Nat} {ov pl : Int} (w : Wlk rs p i ov pl) (h : IsHalf rs p) (z : ov = 0) : pl = p := by
  rcases Int.lt_or_eq_of_le w.le with l | l
  · have := h.no pl w.nn l
    have := w.val
    omega
  · exact l
theorem take_run {α : Type} {R : List α} {i : Nat} {q : α} (h : R[i]? = some q) : R = R.take i ++ q :: R.drop (i + 1) := by
  obtain ⟨h1, h2⟩ := List.getElem?_eq_some_iff.mp h
  rw [← h2, List.getElem_cons_drop, List.take_append_drop]
theorem Wlk.next {p : Int} {i : Nat} {ov pl : Int} {q : Bool × Bool × Int} (w : Wlk rs p i ov pl) (h : IsHalf rs p) (hp : ∀ r ∈ rs, 0 < r.2) (ev : ∀ g, sm g rs % 2 = 0) (hq : (runsOf rs)[i]? = some q) (nz : ov ≠ 0) :
    let st := if gain q.1 q.2.1 * ov < 0 then min q.2.2 (if ov < 0 then -ov else ov) else q.2.2
    Wlk rs p (i + 1) (ov + gain q.1 q.2.1 * st) (pl + st) := by
  intro st
  obtain ⟨rt, rp⟩ := runs_facts hp ev
  have hR := take_run hq
  have hpos : 0 < q.2.2 := rp q (List.mem_of_getElem? hq)
  have hne : pl ≠ p := fun e => by
    have := w.val
    rw [e, h.at_] at this
    omega
  have hpl : pl = rtot ((runsOf rs).take i) := w.at_.resolve_right hne
  have hlt : pl < p := by have := w.le; omega
  have tk : (runsOf rs).take (i + 1) = (runsOf rs).take i ++ [q] := by rw [List.take_add_one, hq]; rfl
  have rtk : rtot ((runsOf rs).take (i + 1)) = pl + q.2.2 := by rw [tk, rtot_append, hpl]; simp [rtot]
  have hend : pl + q.2.2 ≤ tot rs / 2 := by
    rw [← rt]
    rw [hR, rtot_append]
    simp only [rtot]
    have := rtot_nn ((runsOf rs).drop (i + 1)) (fun y hy => rp y (List.mem_of_mem_drop hy))
    omega
  have lin : ∀ y, 0 ≤ y → y ≤ q.2.2 → over true rs (tot rs / 2) (pl + y) = 2 * ov + 2 * (gain q.1 q.2.1 * y) := fun y y0 y1 => by
    have nn := w.nn
    rw [over_runs hp ev (x := pl + y) (by omega) (by omega), w.val, over_runs hp ev (x := pl) (by omega) (by omega)]
    have e := cumR_run ((runsOf rs).take i) ((runsOf rs).drop (i + 1)) q y (by rw [← hR]; exact rp) y0 y1
    rw [← hR, ← hpl] at e
    unfold runsOf at e
    rw [e]; omega
  have hle := h.le
  have hat := h.at_
  have nn := w.nn
  have inrun : p < pl + q.2.2 → 2 * ov + 2 * (gain q.1 q.2.1 * (p - pl)) = 0 := fun z => by
    have := lin (p - pl) (by omega) (by omega)
    rw [show pl + (p - pl) = p by omega, hat] at this
    omega
  have atp : ∀ y, 0 ≤ y → y ≤ q.2.2 → ov + gain q.1 q.2.1 * y = 0 → p ≤ pl + y := fun y y0 y1 z => by
    by_cases l : pl + y < p
    · have := h.no (pl + y) (by omega) l
      have := lin y y0 y1
      omega
    · omega
  have st0 : 0 ≤ st ∧ st ≤ q.2.2 := by
    show 0 ≤ (if gain q.1 q.2.1 * ov < 0 then min q.2.2 (if ov < 0 then -ov else ov) else q.2.2) ∧ _ ≤ _
    split
    · split <;> omega
    · omega
  refine ⟨by omega, ?_, ?_, ?_⟩
  · show pl + st ≤ p
    have key : ∀ gn : Int, (gn = 1 ∨ gn = 0 ∨ gn = -1) → (p < pl + q.2.2 → 2 * ov + 2 * (gn * (p - pl)) = 0) → pl + (if gn * ov < 0 then min q.2.2 (if ov < 0 then -ov else ov) else q.2.2) ≤ p := by
      intro gn hg hi
      rcases hg with rfl | rfl | rfl <;> (split <;> try split) <;> omega
    refine key (gain q.1 q.2.1) ?_ inrun
    unfold gain
    cases q.1 <;> cases q.2.1 <;> simp
  · rw [lin st st0.1 st0.2]
    omega
  · show pl + st = rtot ((runsOf rs).take (i + 1)) ∨ pl + st = p
    rw [rtk]
    have key : ∀ gn : Int, (gn = 1 ∨ gn = 0 ∨ gn = -1) → (p < pl + q.2.2 → 2 * ov + 2 * (gn * (p - pl)) = 0) → (∀ y, 0 ≤ y → y ≤ q.2.2 → ov + gn * y = 0 → p ≤ pl + y) →
        pl + (if gn * ov < 0 then min q.2.2 (if ov < 0 then -ov else ov) else q.2.2) = pl + q.2.2 ∨ pl + (if gn * ov < 0 then min q.2.2 (if ov < 0 then -ov else ov) else q.2.2) = p := by
      intro gn hg hi ha
      rcases hg with rfl | rfl | rfl
      · by_cases z : 1 * ov < 0
        · rw [if_pos z, if_pos (by omega)]
          by_cases y : -ov ≤ q.2.2
          · have := ha (-ov) (by omega) y (by omega)
            have := hi
            omega
          · omega
        · rw [if_neg z]; exact .inl rfl
      · rw [if_neg (by omega)]; exact .inl rfl
      · by_cases z : -1 * ov < 0
        · rw [if_pos z, if_neg (by omega)]
          by_cases y : ov ≤ q.2.2
          · have := ha ov (by omega) y (by omega)
            have := hi
            omega
          · omega
        · rw [if_neg z]; exact .inl rfl
    refine key (gain q.1 q.2.1) ?_ inrun atp
    unfold gain
    cases q.1 <;> cases q.2.1 <;> simp
theorem Wlk.last {p : Int} {ov pl : Int} (w : Wlk rs p (runsOf rs).length ov pl) (h : IsHalf rs p) (hp : ∀ r ∈ rs, 0 < r.2) (ev : ∀ g, sm g rs % 2 = 0) : pl = p := by
  obtain ⟨rt, rp⟩ := runs_facts hp ev
  rcases w.at_ with z | z
  · rw [List.take_length, rt] at z
    have := w.le
    have := h.le
    omega
  · exact z
theorem Wlk.first {p : Int} (h : IsHalf rs p) (hp : ∀ r ∈ rs, 0 < r.2) (ev : ∀ g, sm g rs % 2 = 0) : Wlk rs p 0 (sm true (cutR rs 0 (tot rs / 2)) - sm true rs / 2) 0 := by
  have h0 : ∀ r ∈ rs, 0 ≤ r.2 := fun r hr => Int.le_of_lt (hp r hr)
  have ht := tot_nonneg rs h0
  refine ⟨Int.le_refl _, h.nn, ?_, .inl rfl⟩
  rw [cut_sm true (by omega) h0]
  unfold over
  have := ev true
  rw [show (0 : Int) + tot rs / 2 = tot rs / 2 by omega]
  omega
end L2

set_option Elab.async false
set_option linter.all false
set_option maxRecDepth 100000
/-! L6b: named rows and runs on the heap -/
namespace L2
open PySem PySem.Spec PyProof.Rows
theorem tps_lst {H : Hp} {c : Addr} {xs : List V} {o : HO} (h : H c = some (.lst xs)) : Tps H (upd H c o) := fun b zs e => by
  rw [upd_ne (fun z => by rw [z, h] at e; cases e)]; exact e
theorem tps_new {H : Hp} {c : Addr} {o : HO} (h : H c = none) : Tps H (upd H c o) := (same_new h).tps
/-- a tuple of a name and a long -/
def NRAt (H : Hp) (v : V) (r : V × Int) : Prop := ∃ q, v = .ref q ∧ H q = some (.tup [r.1, .int r.2])
abbrev NRsAt (H : Hp) : List V → List (V × Int) → Prop := Paired (NRAt H)
theorem NRAt.mono {H H' : Hp} {v : V} {r : V × Int} (h : NRAt H v r) (t : Tps H H') : NRAt H' v r := let ⟨p, e, q⟩ := h; ⟨p, e, t p _ q⟩
theorem NRsAt.mono {H H' : Hp} {vs : List V} {rs : List (V × Int)} (h : NRsAt H vs rs) (t : Tps H H') : NRsAt H' vs rs := Paired.mapP h fun _ _ q => q.mono t
/-- a run: a tuple of two names and a long -/
def TrAt (H : Hp) (v : V) (r : V × V × Int) : Prop := ∃ q, v = .ref q ∧ H q = some (.tup [r.1, r.2.1, .int r.2.2])
abbrev TrsAt (H : Hp) : List V → List (V × V × Int) → Prop := Paired (TrAt H)
theorem TrAt.mono {H H' : Hp} {v : V} {r : V × V × Int} (h : TrAt H v r) (t : Tps H H') : TrAt H' v r := let ⟨p, e, q⟩ := h; ⟨p, e, t p _ q⟩
theorem TrsAt.mono {H H' : Hp} {vs : List V} {rs : List (V × V × Int)} (h : TrsAt H vs rs) (t : Tps H H') : TrsAt H' vs rs := Paired.mapP h fun _ _ q => q.mono t
/-- a bank's rows as named rows -/
def nr (r : Bk.Rw) : V × Int := (.str (gs r.1), r.2)
theorem rows_nr {H : Hp} : ∀ {vs : List V} {rs : List Bk.Rw}, RowsAt H vs rs → NRsAt H vs (rs.map nr)
  | _, _, .nil => .nil
  | _, _, .cons h t => .cons h (rows_nr t)
theorem pop_rev {α : Type} (v : α) (l : List α) : (v :: l).reverse[(v :: l).reverse.length - 1]? = some v ∧ (v :: l).reverse.dropLast = l.reverse := by
  rw [List.reverse_cons]
  simp
theorem paired_snoc {α β : Type} {F : α → β → Prop} {l₁ : List α} {l₂ : List β} {a : α} {b : β} (h : Paired F l₁ l₂) (q : F a b) : Paired F (l₁ ++ [a]) (l₂ ++ [b]) := Paired.snoc h q
end L2

set_option Elab.async false
set_option linter.all false
set_option maxRecDepth 100000
set_option maxHeartbeats 4000000
namespace Q9
open PySem L2
abbrev sSbs : Stmt := top 23
section
variable {P : Program} {w : World} {K : PySem.W.Frag} {mg : Str → Option Value} {base : Heap}
def spSbs (K : PySem.W.Frag) : Sp := fun vs H Q _ => ∃ (a b : Addr) (xs ys : List V) (ra rb : List (V × Int)), vs = [.ref a, .ref b] ∧ SqL K H a xs ∧ NRsAt H xs ra ∧ SqL K H b ys ∧ NRsAt H ys rb ∧
  (∀ r ∈ ra, 0 < r.2) ∧ (∀ r ∈ rb, 0 < r.2) ∧ Bk.ntot ra = Bk.ntot rb ∧ ra.length + rb.length ≤ 2000 ∧
  ∀ p zs H', Same H H' → H p = none → H' p = some (.lst zs) → TrsAt H' zs (Bk.sbs ra rb) → Q (.ref p) H'
theorem scSb : FnScope ["rows", "others", "left", "others_left", "runs", "row", "other", "both"] ["rows", "others"] (defScope sSbs) := ⟨rfl, rfl, rfl, by decide +kernel, rfl, by decide +kernel, by decide +kernel⟩
seal L2.PSs L2.PS L2.PE L2.PA L2.PT L2.PW
theorem ok_sbs {f : Addr} {fd : FuncData} (F : FunG K "side_by_side" "side_by_side" sSbs f fd .none) (T : Py mg) : FnOk P w K mg base CX0 1 f fd ["rows", "others"] (spSbs K) := by
  refine F.ok scSb (fun vs H Q E h => ?_) (fun cdv A outer s H vs Q E hr h => ?_)
  · obtain ⟨_, _, _, _, _, _, rfl, _⟩ := h; rfl
  · obtain ⟨a, b, xs, ys, ra, rb, rfl, hA, hRa, hB, hRb, pa, pb, ht, hN, k⟩ := h
    refine ⟨_, pss_cons (ps_set (i := 2) scSb.nd rfl (Or.inl rfl) (pe_lrev rfl rfl T.list rfl T.rev (pa_cons (pv 0) pa_nil)))
      (pss_cons (ps_set (i := 3) scSb.nd rfl (Or.inl rfl) (pe_lrev rfl rfl T.list rfl T.rev (pa_cons (pv 1) pa_nil)))
      (pss_cons (ps_set (i := 4) scSb.nd rfl (Or.inl rfl) (pe_lst pa_nil))
      (pss_cons (ps_while PassesOwn.never (pt_cmpR op_gt (pe_callB call_len_seq rfl T.len PySem.boot_len (pa_cons (pv 2) pa_nil)) pe_int (nomark _))
        (pss_cons (ps_set (i := 5) scSb.nd rfl (Or.inl rfl) (pe_bm0 PySem.F.plainAttrs_list PySem.F.slot_list_pop PySem.F.type_list_pop mt_pop (pv 2)))
        (pss_cons (ps_set (i := 6) scSb.nd rfl (Or.inl rfl) (pe_bm0 PySem.F.plainAttrs_list PySem.F.slot_list_pop PySem.F.type_list_pop mt_pop (pv 3)))
        (pss_cons (ps_set (i := 7) scSb.nd rfl (Or.inl rfl) (pe_callB (call_min2 rfl) rfl T.min PyProof.Rows.boot_min (pa_cons (pe_ix ix_tup (pv 5) pe_int (fun _ _ => rfl)) (pa_cons (pe_ix ix_tup (pv 6) pe_int (fun _ _ => rfl)) pa_nil))))
        (pss_cons (ps_expr (pe_bm PySem.F.plainAttrs_list PySem.F.slot_list_append PySem.F.type_list_append mt_append (pv 4) (pa_cons (pe_tup (pa_cons (pe_ix ix_tup (pv 5) pe_int (fun _ _ => rfl)) (pa_cons (pe_ix ix_tup (pv 6) pe_int (fun _ _ => rfl)) (pa_cons (pv 7) pa_nil)))) pa_nil)))
        (pss_cons (ps_if (pt_cmpR op_gt (pe_ix ix_tup (pv 5) pe_int (fun _ _ => rfl)) (pv 7) (nomark _))
          (pss_one (ps_expr (pe_bm PySem.F.plainAttrs_list PySem.F.slot_list_append PySem.F.type_list_append mt_append (pv 2) (pa_cons (pe_tup (pa_cons (pe_ix ix_tup (pv 5) pe_int (fun _ _ => rfl)) (pa_cons (pe_op op_sub (pe_ix ix_tup (pv 5) pe_int (fun _ _ => rfl)) (pv 7)) pa_nil))) pa_nil)))) pss_nil)
        (pss_one (ps_if (pt_cmpR op_gt (pe_ix ix_tup (pv 6) pe_int (fun _ _ => rfl)) (pv 7) (nomark _))
          (pss_one (ps_expr (pe_bm PySem.F.plainAttrs_list PySem.F.slot_list_append PySem.F.type_list_append mt_append (pv 3) (pa_cons (pe_tup (pa_cons (pe_ix ix_tup (pv 6) pe_int (fun _ _ => rfl)) (pa_cons (pe_op op_sub (pe_ix ix_tup (pv 6) pe_int (fun _ _ => rfl)) (pv 7)) pa_nil))) pa_nil)))) pss_nil))))))))
      (pss_one (ps_ret (pv 4)))))), ?_⟩
    refine ⟨_, rfl, a, xs, rfl, hA, fun pl hpl => ?_⟩
    have s1 := same_new (o := .lst xs.reverse) hpl
    refine ⟨_, rfl, b, ys, rfl, s1.seq hB, fun po hpo => ?_⟩
    have n1 : pl ≠ po := fun z => by rw [← z, upd_same] at hpo; cases hpo
    have s2 := s1.trans (same_new (o := .lst ys.reverse) hpo)
    refine ⟨Nat.zero_le _, fun pr hpr => ?_⟩
    have n2 : po ≠ pr := fun z => by rw [← z, upd_same] at hpr; cases hpr
    have n3 : pl ≠ pr := fun z => by rw [← z, upd_ne n1, upd_same] at hpr; cases hpr
    have s3 := s2.trans (same_new (o := .lst []) hpr)
    have hpo0 : H po = none := s1.free hpo
    have hpr0 : H pr = none := s2.free hpr
    let W : Nat → St → Hp → Prop := fun m σ H2 => ∃ va vb zs ra' rb' dn z5 z6 z7, m = List.length ra' + List.length rb' ∧ σ = [some (.ref a), some (.ref b), some (.ref pl), some (.ref po), some (.ref pr), z5, z6, z7] ∧ Same H H2 ∧
      H2 pl = some (.lst (List.reverse va)) ∧ H2 po = some (.lst (List.reverse vb)) ∧ H2 pr = some (.lst zs) ∧ NRsAt H2 va ra' ∧ NRsAt H2 vb rb' ∧ TrsAt H2 zs dn ∧ dn ++ Bk.sbs ra' rb' = Bk.sbs ra rb ∧
      (∀ r ∈ ra', 0 < r.2) ∧ (∀ r ∈ rb', 0 < r.2) ∧ Bk.ntot ra' = Bk.ntot rb' ∧ dn.length + ra'.length + rb'.length ≤ 2000
    refine ⟨W, ⟨_, xs, ys, [], ra, rb, [], none, none, none, rfl, rfl, s3, by rw [upd_ne n3, upd_ne n1, upd_same], by rw [upd_ne n2, upd_same], upd_same, NRsAt.mono hRa s3.tps, NRsAt.mono hRb s3.tps, .nil, rfl, pa, pb, ht, by simpa using hN⟩, ?_⟩
    rintro m σ H2 ⟨va, vb, zs, ra', rb', dn, z5, z6, z7, rfl, rfl, sm, hl, ho, hz, hva, hvb, hdn, heq, pa', pb', ht', hN'⟩
    refine ⟨_, rfl, pl, _, rfl, .inl (SqL.of hl), _, _, rfl, rfl, _, rfl, ?_⟩
    refine ite2 (fun z => ?_) (fun z => ?_)
    · have z1 : (0 : Int) < ((va.reverse).length : Int) := of_decide_eq_true z
      cases hva with
      | nil => simp at z1
      | @cons v rw1 va1 ra1 h1 t1 =>
      cases hvb with
      | nil =>
        have p1 := pa' rw1 (by simp)
        have p2 := Bk.ntot_pos ra1 (fun r hr => pa' r (by simp [hr]))
        simp only [Bk.ntot] at ht'; omega
      | @cons u rw2 vb1 rb1 h2 t2 =>
      obtain ⟨n, l⟩ := rw1
      obtain ⟨n', l'⟩ := rw2
      obtain ⟨q, rfl, hq⟩ := h1
      obtain ⟨q', rfl, hq'⟩ := h2
      have pl0 : 0 < l := pa' (n, l) (by simp)
      have pl1 : 0 < l' := pb' (n', l') (by simp)
      have pa1 : ∀ r ∈ ra1, 0 < r.2 := fun r hr => pa' r (by simp [hr])
      have pb1 : ∀ r ∈ rb1, 0 < r.2 := fun r hr => pb' r (by simp [hr])
      simp only [Bk.ntot] at ht'
      rw [Bk.sbs_cons] at heq
      simp only [List.length_cons] at hN'
      refine ⟨fun σ' H' => ∃ m', m' < ra1.length + 1 + (rb1.length + 1) ∧ W m' σ' H', fun _ _ h => h, ?_⟩
      refine ⟨_, rfl, .inl ⟨rfl, _, SqL.of hl⟩, pl, _, _, rfl, rfl, hl, (pop_rev _ _).1, ?_⟩
      rw [(pop_rev _ _).2]
      have ho3 : upd H2 pl (.lst va1.reverse) po = some (.lst (V.ref q' :: vb1).reverse) := by rw [upd_ne n1.symm]; exact ho
      refine ⟨_, rfl, .inl ⟨rfl, _, SqL.of ho3⟩, po, _, _, rfl, rfl, ho3, (pop_rev _ _).1, ?_⟩
      rw [(pop_rev _ _).2]
      have tp1 := tps_lst (o := .lst va1.reverse) hl
      have tp2 := tps_lst (o := .lst vb1.reverse) ho3
      have tp := tp1.trans tp2
      have sm4 : Same H (upd (upd H2 pl (.lst va1.reverse)) po (.lst vb1.reverse)) := (sm.write hpl).write hpo0
      have hl4 : upd (upd H2 pl (.lst va1.reverse)) po (.lst vb1.reverse) pl = some (.lst va1.reverse) := by rw [upd_ne n1, upd_same]
      have ho4 : upd (upd H2 pl (.lst va1.reverse)) po (.lst vb1.reverse) po = some (.lst vb1.reverse) := upd_same
      have hz4 : upd (upd H2 pl (.lst va1.reverse)) po (.lst vb1.reverse) pr = some (.lst zs) := by rw [upd_ne n2.symm, upd_ne n3.symm]; exact hz
      have hq4 := tp _ _ hq
      have hq4' := tp _ _ hq'
      have t14 := NRsAt.mono t1 tp
      have t24 := NRsAt.mono t2 tp
      have hd4 := TrsAt.mono hdn tp
      clear tp tp1 tp2 hdn hl ho hz hq hq' t1 t2 ho3 sm
      generalize upd (upd H2 pl (.lst va1.reverse)) po (.lst vb1.reverse) = H4 at *
      refine ⟨_, rfl, q, _, 1, _, rfl, rfl, SqT.of hq4, rfl, _, rfl, q', _, 1, _, rfl, rfl, SqT.of hq4', rfl, _, _, rfl, ?_⟩
      rw [min_eq]
      refine ⟨_, rfl, .inl ⟨rfl, _, SqL.of hz4⟩, _, rfl, q, _, 0, _, rfl, rfl, SqT.of hq4, rfl, _, rfl, q', _, 0, _, rfl, rfl, SqT.of hq4', rfl, _, rfl, by show 3 ≤ sizeLine; decide, fun Z hZ => ?_⟩
      have nZ : pr ≠ Z := fun w => by rw [← w, hz4] at hZ; cases hZ
      have nZl : pl ≠ Z := fun w => by rw [← w, hl4] at hZ; cases hZ
      have nZo : po ≠ Z := fun w => by rw [← w, ho4] at hZ; cases hZ
      have hz5 : upd H4 Z (.tup [n, n', .int (min l l')]) pr = some (.lst zs) := by rw [upd_ne nZ]; exact hz4
      have lz := Paired.length hd4
      refine ⟨pr, zs, _, rfl, rfl, hz5, Nat.lt_of_le_of_lt (m := 2000) (by omega) (by decide), ?_⟩
      have tp1 := tps_new (o := .tup [n, n', .int (min l l')]) hZ
      have tp2 := tps_lst (o := .lst (zs ++ [.ref Z])) hz5
      have tp := tp1.trans tp2
      have sm5 : Same H (upd (upd H4 Z (.tup [n, n', .int (min l l')])) pr (.lst (zs ++ [.ref Z]))) := (sm4.trans (same_new hZ)).write hpr0
      have hl5 : upd (upd H4 Z (.tup [n, n', .int (min l l')])) pr (.lst (zs ++ [.ref Z])) pl = some (.lst va1.reverse) := by rw [upd_ne n3, upd_ne nZl]; exact hl4
      have ho5 : upd (upd H4 Z (.tup [n, n', .int (min l l')])) pr (.lst (zs ++ [.ref Z])) po = some (.lst vb1.reverse) := by rw [upd_ne n2, upd_ne nZo]; exact ho4
      have hz6 : upd (upd H4 Z (.tup [n, n', .int (min l l')])) pr (.lst (zs ++ [.ref Z])) pr = some (.lst (zs ++ [.ref Z])) := upd_same
      have hq5 := tp _ _ hq4
      have hq5' := tp _ _ hq4'
      have t15 := NRsAt.mono t14 tp
      have t25 := NRsAt.mono t24 tp
      have hd5 : TrsAt (upd (upd H4 Z (.tup [n, n', .int (min l l')])) pr (.lst (zs ++ [.ref Z]))) (zs ++ [.ref Z]) (dn ++ [(n, n', min l l')]) :=
        paired_snoc (TrsAt.mono hd4 tp) ⟨Z, rfl, by rw [upd_ne nZ.symm, upd_same]⟩
      clear tp tp1 tp2 hd4 hl4 ho4 hz4 hz5 hq4 hq4' t14 t24 sm4
      generalize upd (upd H4 Z (.tup [n, n', .int (min l l')])) pr (.lst (zs ++ [.ref Z])) = H5 at *
      have lv1 := Paired.length t15
      have lv2 := Paired.length t25
      refine ⟨_, rfl, q, _, 1, _, rfl, rfl, SqT.of hq5, rfl, _, rfl, _, _, rfl, rfl, _, rfl, ?_⟩
      refine ite2 (fun y => ?_) (fun y => ?_)
      · have y1 : min l l' < l := of_decide_eq_true y
        refine ⟨_, rfl, .inl ⟨rfl, _, SqL.of hl5⟩, _, rfl, q, _, 0, _, rfl, rfl, SqT.of hq5, rfl, _, rfl, q, _, 1, _, rfl, rfl, SqT.of hq5, rfl, _, rfl, _, _, rfl, rfl, by show 2 ≤ sizeLine; decide, fun Y hY => ?_⟩
        have nY : pl ≠ Y := fun w => by rw [← w, hl5] at hY; cases hY
        have nYo : po ≠ Y := fun w => by rw [← w, ho5] at hY; cases hY
        have nYr : pr ≠ Y := fun w => by rw [← w, hz6] at hY; cases hY
        have hl6 : upd H5 Y (.tup [n, .int (l - min l l')]) pl = some (.lst va1.reverse) := by rw [upd_ne nY]; exact hl5
        refine ⟨pl, _, _, rfl, rfl, hl6, Nat.lt_of_le_of_lt (m := 2000) (by rw [List.length_reverse]; omega) (by decide), ?_⟩
        have tp := (tps_new (o := .tup [n, .int (l - min l l')]) hY).trans (tps_lst (o := .lst (va1.reverse ++ [.ref Y])) hl6)
        have ev : va1.reverse ++ [V.ref Y] = (V.ref Y :: va1).reverse := by simp
        refine ⟨_, rfl, q', _, 1, _, rfl, rfl, SqT.of (tp _ _ hq5'), rfl, _, rfl, _, _, rfl, rfl, _, rfl, ?_⟩
        refine ite2 (fun x => absurd (of_decide_eq_true x : min l l' < l') (by omega)) (fun _ => ?_)
        refine ⟨ra1.length + 1 + rb1.length, by omega, V.ref Y :: va1, vb1, _, (n, l - min l l') :: ra1, rb1, _, _, _, _, by simp, rfl, (sm5.trans (same_new hY)).write hpl, by rw [upd_same, ev], by rw [upd_ne n1.symm, upd_ne nYo]; exact ho5, by rw [upd_ne n3.symm, upd_ne nYr]; exact hz6,
          .cons ⟨Y, rfl, by rw [upd_ne nY.symm, upd_same]⟩ (NRsAt.mono t15 tp), NRsAt.mono t25 tp, TrsAt.mono hd5 tp, ?_, fun r hr => ?_, pb1, ?_, ?_⟩
        · rw [List.append_assoc, List.singleton_append, ← heq, if_pos (by omega), show min l l' = l' by omega]
        · rcases List.mem_cons.mp hr with e | e
          · rw [e]; show 0 < l - min l l'; omega
          · exact pa1 r e
        · simp only [Bk.ntot]; omega
        · simp only [List.length_append, List.length_cons, List.length_nil]; omega
      · have y1 : ¬ min l l' < l := fun w => y (decide_eq_true w)
        refine ⟨_, rfl, q', _, 1, _, rfl, rfl, SqT.of hq5', rfl, _, rfl, _, _, rfl, rfl, _, rfl, ?_⟩
        refine ite2 (fun x => ?_) (fun x => ?_)
        · have x1 : min l l' < l' := of_decide_eq_true x
          refine ⟨_, rfl, .inl ⟨rfl, _, SqL.of ho5⟩, _, rfl, q', _, 0, _, rfl, rfl, SqT.of hq5', rfl, _, rfl, q', _, 1, _, rfl, rfl, SqT.of hq5', rfl, _, rfl, _, _, rfl, rfl, by show 2 ≤ sizeLine; decide, fun Y hY => ?_⟩
          have nY : po ≠ Y := fun w => by rw [← w, ho5] at hY; cases hY
          have nYl : pl ≠ Y := fun w => by rw [← w, hl5] at hY; cases hY
          have nYr : pr ≠ Y := fun w => by rw [← w, hz6] at hY; cases hY
          have ho6 : upd H5 Y (.tup [n', .int (l' - min l l')]) po = some (.lst vb1.reverse) := by rw [upd_ne nY]; exact ho5
          refine ⟨po, _, _, rfl, rfl, ho6, Nat.lt_of_le_of_lt (m := 2000) (by rw [List.length_reverse]; omega) (by decide), ?_⟩
          have tp := (tps_new (o := .tup [n', .int (l' - min l l')]) hY).trans (tps_lst (o := .lst (vb1.reverse ++ [.ref Y])) ho6)
          have ev : vb1.reverse ++ [V.ref Y] = (V.ref Y :: vb1).reverse := by simp
          refine ⟨ra1.length + (rb1.length + 1), by omega, va1, V.ref Y :: vb1, _, ra1, (n', l' - min l l') :: rb1, _, _, _, _, by simp, rfl, (sm5.trans (same_new hY)).write hpo0, by rw [upd_ne n1, upd_ne nYl]; exact hl5, by rw [upd_same, ev], by rw [upd_ne n2.symm, upd_ne nYr]; exact hz6,
            NRsAt.mono t15 tp, .cons ⟨Y, rfl, by rw [upd_ne nY.symm, upd_same]⟩ (NRsAt.mono t25 tp), TrsAt.mono hd5 tp, ?_, pa1, fun r hr => ?_, ?_, ?_⟩
          · rw [List.append_assoc, List.singleton_append, ← heq, if_neg (by omega), if_pos (by omega), show min l l' = l by omega]
          · rcases List.mem_cons.mp hr with e | e
            · rw [e]; show 0 < l' - min l l'; omega
            · exact pb1 r e
          · simp only [Bk.ntot]; omega
          · simp only [List.length_append, List.length_cons, List.length_nil]; omega
        · have x1 : ¬ min l l' < l' := fun w => x (decide_eq_true w)
          refine ⟨ra1.length + rb1.length, by omega, va1, vb1, _, ra1, rb1, _, _, _, _, rfl, rfl, sm5, hl5, ho5, hz6, t15, t25, hd5, ?_, pa1, pb1, by omega, ?_⟩
          · rw [List.append_assoc, List.singleton_append, ← heq, if_neg (by omega), if_neg (by omega)]
          · simp only [List.length_append, List.length_cons, List.length_nil]; omega
    · have z1 : ¬ (0 : Int) < ((va.reverse).length : Int) := fun w => z (decide_eq_true w)
      cases hva with
      | cons h1 t1 => simp at z1
      | nil =>
        refine ⟨_, rfl, k pr zs H2 sm hpr0 hz ?_⟩
        rw [Bk.sbs_nil, List.append_nil] at heq
        rw [← heq]
        exact hdn
end
end Q9

set_option Elab.async false
set_option linter.all false
set_option maxRecDepth 100000
set_option maxHeartbeats 4000000
namespace Q9
open PySem L2
open Bk (Alt)
abbrev sUne : Stmt := top 18
abbrev sGain : Stmt := top 25
abbrev sHalf : Stmt := top 26
/-- the ground whose sum is no multiple of c, dry ahead of wet -/
def uneV (rs : List Bk.Rw) (c : Int) : V := if Bk.sm true rs % c = 0 then (if Bk.sm false rs % c = 0 then .non else .str (gs false)) else .str (gs true)
theorem abs_min (i j : Int) : (if (if j < 0 then -j else j) < i then (if j < 0 then -j else j) else i) = min i (if j < 0 then -j else j) := by split <;> omega
section
variable {P : Program} {w : World} {K : PySem.W.Frag} {mg : Str → Option Value} {base : Heap}
def spUne (K : PySem.W.Frag) : Sp := fun vs H Q _ => ∃ a xs rs c, vs = [.ref a, .int c] ∧ 0 < c ∧ SqL K H a xs ∧ RowsAt H xs rs ∧ rs.length ≤ 1000 ∧ ∀ H', Same H H' → Q (uneV rs c) H'
theorem scUn : FnScope ["bank", "count", "ground"] ["bank", "count"] (defScope sUne) := ⟨rfl, rfl, rfl, by decide +kernel, rfl, by decide +kernel, by decide +kernel⟩
seal L2.PSs L2.PS L2.PE L2.PA L2.PT L2.PW
theorem ok_une {f f1 : Addr} {fd fd1 : FuncData} (F : FunG K "uneven_ground" "uneven_ground" sUne f fd .none) (T : Py mg) (D1 : Df K mg "sum_of" sSum ["bank", "ground"] f1 fd1) : FnOk P w K mg base CX0 2 f fd ["bank", "count"] (spUne K) := by
  have G1 : FnOk P w K mg base CX0 1 f1 fd1 ["bank", "ground"] (spSum K) := ok_sum D1.fn T
  refine F.ok scUn (fun vs H Q E h => ?_) (fun cdv A outer s H vs Q E hr h => ?_)
  · obtain ⟨_, _, _, _, rfl, _⟩ := h; rfl
  · obtain ⟨a, xs, rs, c, rfl, hc, hS, hR, hl, k⟩ := h
    obtain ⟨t1, d1⟩ := T.dry
    obtain ⟨t2, d2⟩ := T.wet
    refine ⟨_, pss_cons (ps_for PassesOwn.never rfl (pi_tup (pe_tup (pa_cons (pe_glob (v := .str "dry") rfl d1 ⟨_, rfl⟩) (pa_cons (pe_glob (v := .str "wet") rfl d2 ⟨_, rfl⟩) pa_nil)))) (pg_name (i := 2) scUn.nd rfl (Or.inl rfl))
        (pss_one (ps_if (pt_cmpR op_ne (pe_op op_mod (pe_call G1 hr rfl D1.gl D1.fn.kp D1.bd .nil pass0 (pa_cons (pv 0) (pa_cons (pv 2) pa_nil))) (pv 1)) pe_int (nomark _)) (pss_one (ps_ret (pv 2))) pss_nil)))
      (pss_one (ps_ret pe_non)), ?_⟩
    refine ⟨by show 2 ≤ sizeLine; decide, fun tp htp => ?_⟩
    refine ⟨tp, rfl, ⟨_, SqT.of upd_same⟩, for_tup (K := K) (a := tp) (xs := [.str "dry", .str "wet"]) (fun i σ H2 => ∃ z, σ = [some (.ref a), some (.int c), z] ∧ Same H H2 ∧ H2 tp = some (.tup [.str "dry", .str "wet"]) ∧ (1 ≤ i → Bk.sm true rs % c = 0) ∧ (2 ≤ i → Bk.sm false rs % c = 0))
      ⟨none, rfl, same_new htp, upd_same, by omega, by omega⟩ (fun i σ H2 _ ⟨_, _, _, h, _⟩ => SqT.of h) ?_ ?_⟩
    · rintro i x σ H2 hx ⟨z, rfl, sm, ht, h1, h2⟩
      have two : ∃ g : Bool, x = .str (gs g) ∧ i = (if g then 0 else 1) := by
        match i, hx with
        | 0, hx => exact ⟨true, (Option.some.inj hx).symm, rfl⟩
        | 1, hx => exact ⟨false, (Option.some.inj hx).symm, rfl⟩
        | i + 2, hx => simp at hx
      obtain ⟨g, rfl, hi⟩ := two
      refine ⟨_, rfl, _, rfl, a, xs, rs, g, rfl, sm.seq hS, hR.mono sm.tps, hl, fun H3 s3 => ?_⟩
      refine ⟨_, rfl, _, _, rfl, rfl, hc, rfl, _, rfl, ?_⟩
      have sm3 := sm.trans s3
      refine ite2 (fun y => ?_) (fun y => ?_)
      · have y0 : (!decide (V.int (Bk.sm g rs % c) = V.int 0)) = true := y
        have y1 : ¬ Bk.sm g rs % c = 0 := fun e => by simp [e] at y0
        refine ⟨_, rfl, ?_⟩
        have e : uneV rs c = .str (gs g) := by
          unfold uneV
          cases g with
          | true => rw [if_neg y1]
          | false => rw [if_pos (h1 (by rw [hi]; decide)), if_neg y1]
        rw [← e]
        exact k H3 sm3
      · have y1 : Bk.sm g rs % c = 0 := Classical.byContradiction fun e => y (by
          show (!decide (V.int (Bk.sm g rs % c) = V.int 0)) = true
          simp [e])
        refine ⟨_, rfl, sm3, s3 _ _ ht, fun j => ?_, fun j => ?_⟩
        · cases g with
          | true => exact y1
          | false => exact h1 (by rw [hi]; decide)
        · cases g with
          | true => rw [hi] at j; exact absurd j (by decide)
          | false => exact y1
    · rintro σ H2 ⟨z, rfl, sm, ht, h1, h2⟩
      have e : uneV rs c = .non := by
        unfold uneV
        rw [if_pos (h1 (by decide)), if_pos (h2 (by decide))]
      have := k H2 sm
      rw [e] at this
      exact this
def spGain : Sp := fun vs H Q _ => ∃ x y : Bool, vs = [.str (gs x), .str (gs y)] ∧ Q (.int (Bk.gain x y)) H
theorem scGa : FnScope ["lost", "won"] ["lost", "won"] (defScope sGain) := ⟨rfl, rfl, rfl, by decide +kernel, rfl, by decide +kernel, by decide +kernel⟩
theorem ok_gain {f : Addr} {fd : FuncData} (F : FunG K "dry_gain" "dry_gain" sGain f fd .none) (T : Py mg) : FnOk P w K mg base CX0 1 f fd ["lost", "won"] spGain := by
  refine F.ok scGa (fun vs H Q E h => ?_) (fun cdv A outer s H vs Q E hr h => ?_)
  · obtain ⟨_, _, rfl, _⟩ := h; rfl
  · obtain ⟨x, y, rfl, k⟩ := h
    obtain ⟨t1, d1⟩ := T.dry
    refine ⟨_, pss_one (ps_ret (pe_op op_sub (pe_ifExp (pt_cmpR op_eq (pv 1) (pe_glob (v := .str "dry") rfl d1 ⟨_, rfl⟩) (nomark _)) pe_int pe_int) (pe_ifExp (pt_cmpR op_eq (pv 0) (pe_glob (v := .str "dry") rfl d1 ⟨_, rfl⟩) (nomark _)) pe_int pe_int))), ?_⟩
    have dd : ∀ g : Bool, decide (V.str (gs g) = V.str "dry") = g := by intro g; cases g <;> decide +kernel
    refine ⟨_, rfl, rfl, _, rfl, ?_⟩
    rw [dd]
    cases y with
    | true =>
      refine iteT ⟨_, rfl, rfl, _, rfl, ?_⟩
      rw [dd]
      cases x with
      | true => exact iteT ⟨_, _, rfl, rfl, k⟩
      | false => exact iteF ⟨_, _, rfl, rfl, k⟩
    | false =>
      refine iteF ⟨_, rfl, rfl, _, rfl, ?_⟩
      rw [dd]
      cases x with
      | true => exact iteT ⟨_, _, rfl, rfl, k⟩
      | false => exact iteF ⟨_, _, rfl, rfl, k⟩
end
end Q9

set_option Elab.async false
set_option linter.all false
set_option maxRecDepth 100000
set_option maxHeartbeats 4000000
namespace Q9
open PySem L2
open Bk (Alt)
/-- what the defs under half_place are -/
structure Hv (K : PySem.W.Frag) (mg : Str → Option Value) (aO f0 f1 f2 f3 f4 f5 f6 f7 f8 f9 f10 f11 f12 : Addr) (d0 d1 d2 d3 d4 d5 d6 d7 d8 d9 d10 d11 d12 : FuncData) : Prop where
  T : Py mg
  O : OffC K mg aO
  D0 : Df K mg "is_ground" sGround ["value"] f0 d0
  D1 : Df K mg "is_whole" sWhole ["value"] f1 d1
  D2 : Df K mg "refuse_wrong_row" sRefuse ["row", "place"] f2 d2
  D3 : Df K mg "tidy" sTidy ["rows"] f3 d3
  D4 : Df K mg "length" sLen ["bank"] f4 d4
  D5 : Df K mg "sum_of" sSum ["bank", "ground"] f5 d5
  D6 : Df K mg "ground_of" sGof ["bank"] f6 d6
  D7 : Df K mg "uneven_ground" sUne ["bank", "count"] f7 d7
  D8 : Df K mg "checked_end" sCheck ["bank", "start", "end"] f8 d8
  D9 : Df K mg "part" sPart ["bank", "start", "end"] f9 d9
  D10 : DfD K mg "cut_out" sCut f10 d10
  D11 : Df K mg "side_by_side" sSbs ["rows", "others"] f11 d11
  D12 : Df K mg "dry_gain" sGain ["lost", "won"] f12 d12
theorem trs_rows {rs ss : List Bk.Rw} {H : Hp} {zs : List V} (h : TrsAt H zs (Bk.sbs (rs.map nr) (ss.map nr))) : TrsAt H zs ((Bk.sbs rs ss).map fun p => (V.str (gs p.1), V.str (gs p.2.1), p.2.2)) := by
  have e := Bk.sbs_map (fun g => V.str (gs g)) (fun g => V.str (gs g)) _ rs ss (Nat.le_refl _)
  rw [← e]; exact h
section
variable {P : Program} {w : World} {K : PySem.W.Frag} {mg : Str → Option Value} {base : Heap} {aO f0 f1 f2 f3 f4 f5 f6 f7 f8 f9 f10 f11 f12 : Addr} {d0 d1 d2 d3 d4 d5 d6 d7 d8 d9 d10 d11 d12 : FuncData}
def spHalf (K : PySem.W.Frag) : Sp := fun vs H Q _ => ∃ a xs rs, vs = [.ref a] ∧ SqL K H a xs ∧ RowsAt H xs rs ∧ (∀ r ∈ rs, 0 < r.2) ∧ Alt rs ∧ rs.length ≤ 500 ∧ (∀ g, Bk.sm g rs % 2 = 0) ∧ ∀ p H', Same H H' → Bk.IsHalf rs p → Q (.int p) H'
theorem scHa : FnScope ["bank", "odd", "half", "front", "place", "over", "lost", "won", "long", "gain", "step"] ["bank"] (defScope sHalf) := ⟨rfl, rfl, rfl, by decide +kernel, rfl, by decide +kernel, by decide +kernel⟩
seal L2.PSs L2.PS L2.PE L2.PA L2.PT L2.PW
theorem ok_half {f : Addr} {fd : FuncData} (F : FunG K "half_place" "half_place" sHalf f fd .none) (V0 : Hv K mg aO f0 f1 f2 f3 f4 f5 f6 f7 f8 f9 f10 f11 f12 d0 d1 d2 d3 d4 d5 d6 d7 d8 d9 d10 d11 d12) :
    FnOk P w K mg base (CXE P w) 6 f fd ["bank"] (spHalf K) := by
  have T := V0.T
  obtain ⟨dV, FC⟩ := V0.D10.fn
  have GU : FnOk P w K mg base CX0 2 f7 d7 ["bank", "count"] (spUne K) := ok_une V0.D7.fn T V0.D5
  have GL : FnOk P w K mg base CX0 1 f4 d4 ["bank"] (spLen K) := ok_len V0.D4.fn T
  have GG : FnOk P w K mg base CX0 2 f6 d6 ["bank"] (spGof K) := ok_gof V0.D6.fn T V0.D5
  have GC : FnOk P w K mg base (CXE P w) 5 f10 d10 ["bank", "start", "end"] (spCut K aO) := ok_cut FC T V0.O V0.D0 V0.D1 V0.D2 V0.D3 V0.D9 V0.D4 V0.D8
  have GS : FnOk P w K mg base CX0 1 f11 d11 ["rows", "others"] (spSbs K) := ok_sbs V0.D11.fn T
  have GA : FnOk P w K mg base CX0 1 f12 d12 ["lost", "won"] spGain := ok_gain V0.D12.fn T
  refine F.okE scHa (fun vs H Q E h => ?_) (fun cdv A outer s H vs Q E hr h => ?_)
  · obtain ⟨_, _, _, rfl, _⟩ := h; rfl
  · obtain ⟨a, xs, rs, rfl, hS, hR, hp, ha, hl, ev, k⟩ := h
    have r2 : Room 2 (A.deeper (PyProof.Rows.envOfC "half_place" (defScope sHalf) s.heap.objs.size f cdv)) := hr.mono (by decide)
    have r1 : Room 1 (A.deeper (PyProof.Rows.envOfC "half_place" (defScope sHalf) s.heap.objs.size f cdv)) := hr.mono (by decide)
    refine ⟨_, pss_cons (ps_set (i := 1) scHa.nd rfl (Or.inl rfl) (pe_call GU r2 rfl V0.D7.gl V0.D7.fn.kp V0.D7.bd .nil pass0 (pa_cons (pv 0) (pa_cons pe_int pa_nil))))
      (pss_cons (ps_if (pt_cmpR op_notN (pv 1) pe_non (nomark _)) pss_never pss_nil)
      (pss_cons (ps_set (i := 2) scHa.nd rfl (Or.inl rfl) (pe_op op_fdiv (pe_call GL r1 rfl V0.D4.gl V0.D4.fn.kp V0.D4.bd .nil pass0 (pa_cons (pv 0) pa_nil)) pe_int))
      (pss_cons (ps_set (i := 3) scHa.nd rfl (Or.inl rfl) (pe_call GC hr rfl V0.D10.gl V0.D10.kp V0.D10.b0 .nil pass_on (pa_cons (pv 0) (pa_cons pe_int (pa_cons (pv 2) pa_nil)))))
      (pss_cons (ps_set (i := 4) scHa.nd rfl (Or.inl rfl) pe_int)
      (pss_cons (ps_set (i := 5) scHa.nd rfl (Or.inl rfl) (pe_op op_sub (pe_ix ix_tup (pe_call GG r2 rfl V0.D6.gl V0.D6.fn.kp V0.D6.bd .nil pass0 (pa_cons (pv 3) pa_nil)) pe_int (fun _ _ => rfl)) (pe_op op_fdiv (pe_ix ix_tup (pe_call GG r2 rfl V0.D6.gl V0.D6.fn.kp V0.D6.bd .nil pass0 (pa_cons (pv 0) pa_nil)) pe_int (fun _ _ => rfl)) pe_int)))
      (pss_cons (ps_for passes_out rfl (pi_list (pe_call GS r1 rfl V0.D11.gl V0.D11.fn.kp V0.D11.bd .nil pass0 (pa_cons (pv 3) (pa_cons (pe_call GC hr rfl V0.D10.gl V0.D10.kp V0.D10.b1 (dvs := [.non]) (.cons rfl .nil) pass_on (pa_cons (pv 0) (pa_cons (pv 2) pa_nil))) pa_nil))))
          (pg_tup rfl (pgs_cons (pg_name (i := 6) scHa.nd rfl (Or.inl rfl)) (pgs_cons (pg_name (i := 7) scHa.nd rfl (Or.inl rfl)) (pgs_cons (pg_name (i := 8) scHa.nd rfl (Or.inl rfl)) pgs_nil))))
        (pss_cons (ps_if (pt_cmpR op_eq (pv 5) pe_int (nomark _)) (pss_one (ps_ret (pv 4))) pss_nil)
        (pss_cons (ps_set (i := 9) scHa.nd rfl (Or.inl rfl) (pe_call GA r1 rfl V0.D12.gl V0.D12.fn.kp V0.D12.bd .nil pass0 (pa_cons (pv 6) (pa_cons (pv 7) pa_nil))))
        (pss_cons (ps_set (i := 10) scHa.nd rfl (Or.inl rfl) (pe_ifExp (pt_cmpR op_lt (pe_op op_mul (pv 9) (pv 5)) pe_int (nomark _)) (pe_callB (call_min2 rfl) rfl T.min PyProof.Rows.boot_min (pa_cons (pv 8) (pa_cons (pe_callB call_abs rfl T.abs PyProof.Rows.boot_abs (pa_cons (pv 5) pa_nil)) pa_nil))) (pv 8)))
        (pss_cons (ps_set (i := 5) scHa.nd rfl (Or.inl rfl) (pe_op op_add (pv 5) (pe_op op_mul (pv 9) (pv 10))))
        (pss_one (ps_set (i := 4) scHa.nd rfl (Or.inl rfl) (pe_op op_add (pv 4) (pv 10)))))))))
      (pss_one (ps_ret (pv 4))))))))), ?_⟩
    have h0 : ∀ r ∈ rs, 0 ≤ r.2 := fun r hr => Int.le_of_lt (hp r hr)
    have ht := Bk.tot_nonneg rs h0
    obtain ⟨p0, hp0⟩ := Bk.has_half rs hp ev
    have eU : uneV rs 2 = .non := by unfold uneV; rw [if_pos (ev true), if_pos (ev false)]
    refine ⟨_, rfl, a, xs, rs, 2, rfl, by decide, hS, hR, by omega, fun H1 s1 => ?_⟩
    rw [eU]
    refine ⟨_, rfl, rfl, false, rfl, iteF ?_⟩
    refine ⟨_, rfl, a, xs, rs, rfl, s1.seq hS, hR.mono s1.tps, by omega, fun H2 s2 => ⟨_, _, rfl, rfl, ⟨by decide, by decide⟩, ?_⟩⟩
    have s2 := s1.trans s2
    dsimp only
    refine ⟨_, rfl, _, rfl, a, xs, rs, 0, .int (Bk.tot rs / 2), rfl, s2.seq hS, hR.mono s2.tps, by omega, .inr ⟨_, rfl⟩, fun off => ?_, fun no pf yf H3 s3 hpf hf hrf => ?_⟩
    · rcases off with z | z | z
      · omega
      · simp only [lastOf] at z; omega
      · simp only [lastOf] at z; omega
    have s3 := s2.trans s3
    have hrf : RowsAt H3 yf (cutR rs 0 (Bk.tot rs / 2)) := hrf
    have l1 := cut_len (rs := rs) 0 (Bk.tot rs / 2)
    refine ⟨_, rfl, pf, yf, _, rfl, SqL.of hf, hrf, by omega, fun t1 H4 s4 ht1 => ?_⟩
    have s4' := s3.trans s4
    refine ⟨t1, _, 0, _, rfl, rfl, SqT.of ht1, rfl, ?_⟩
    refine ⟨_, rfl, a, xs, rs, rfl, s4'.seq hS, hR.mono s4'.tps, by omega, fun t2 H5 s5 ht2 => ?_⟩
    have s5' := s4'.trans s5
    refine ⟨t2, _, 0, _, rfl, rfl, SqT.of ht2, rfl, _, _, rfl, rfl, ⟨by decide, by decide⟩, _, _, rfl, rfl, ?_⟩
    dsimp only
    have hf5 : H5 pf = some (.lst yf) := s5 _ _ (s4 _ _ hf)
    have hrf5 := hrf.mono (s4.trans s5).tps
    refine ⟨_, rfl, _, rfl, _, rfl, a, xs, rs, Bk.tot rs / 2, .non, rfl, s5'.seq hS, hR.mono s5'.tps, by omega, .inl rfl, fun off => ?_, fun no2 pb yb H6 s6 hpb hb hrb => ?_⟩
    · rcases off with z | z | z
      · omega
      · simp only [lastOf] at z; omega
      · simp only [lastOf] at z; omega
    have s6' := s5'.trans s6
    have hrb : RowsAt H6 yb (cutR rs (Bk.tot rs / 2) (Bk.tot rs)) := hrb
    have l2 := cut_len (rs := rs) (Bk.tot rs / 2) (Bk.tot rs)
    have t1' := cut_tot (rs := rs) (s := 0) (e := Bk.tot rs / 2) (Int.le_refl _) (by omega) (by omega) h0
    have t2' := cut_tot (rs := rs) (s := Bk.tot rs / 2) (e := Bk.tot rs) (by omega) (by omega) (by omega) h0
    have e2 : Bk.tot rs % 2 = 0 := by
      have := Bk.tot_sm rs
      have := ev true
      have := ev false
      omega
    have nt : ∀ ss : List Bk.Rw, Bk.ntot (ss.map nr) = Bk.tot ss := fun ss => by
      induction ss with
      | nil => rfl
      | cons r t ih => simp only [List.map_cons, Bk.ntot, Bk.tot, ih]; rfl
    refine ⟨pf, pb, yf, yb, _, _, rfl, SqL.of (s6 _ _ hf5), rows_nr (hrf5.mono s6.tps), SqL.of hb, rows_nr hrb, fun r hr => ?_, fun r hr => ?_, by rw [nt, nt]; omega, by rw [List.length_map, List.length_map]; omega, fun pr zs H7 s7 hpr hz hzs => ?_⟩
    · obtain ⟨q, hq, rfl⟩ := List.mem_map.mp hr
      exact (cut_good _ _).2 q hq
    · obtain ⟨q, hq, rfl⟩ := List.mem_map.mp hr
      exact (cut_good _ _).2 q hq
    have s7' := s6'.trans s7
    have hzs : TrsAt H7 zs ((runsOf rs).map fun p => (V.str (gs p.1), V.str (gs p.2.1), p.2.2)) := trs_rows hzs
    have lz := Paired.length hzs
    rw [List.length_map] at lz
    refine ⟨pr, rfl, ⟨_, SqL.of hz⟩, for_list (K := K) (a := pr) (xs := zs) (fun i σ H8 => ∃ ov plc z6 z7 z8 z9 z10, σ = [some (.ref a), some .non, some (.int (Bk.tot rs / 2)), some (.ref pf), some (.int plc), some (.int ov), z6, z7, z8, z9, z10] ∧ Same H7 H8 ∧ Wlk rs p0 i ov plc)
      ⟨_, _, none, none, none, none, none, rfl, .refl _, Wlk.first hp0 hp ev⟩ (fun i σ H8 _ ⟨_, _, _, _, _, _, _, _, s8, _⟩ => s8.seq (SqL.of hz)) ?_ ?_⟩
    · rintro i x σ H8 hx ⟨ov, plc, z6, z7, z8, z9, z10, rfl, s8, wk⟩
      obtain ⟨tr, htr, hxt⟩ := paired_get hzs hx
      rw [List.getElem?_map] at htr
      obtain ⟨q, hq, rfl⟩ := Option.map_eq_some_iff.mp htr
      obtain ⟨qa, rfl, hqa⟩ := hxt
      refine ⟨qa, _, rfl, SqT.of (s8 _ _ hqa), rfl, _, _, rfl, _, _, rfl, _, _, rfl, rfl, ?_⟩
      refine ⟨_, rfl, rfl, _, rfl, ?_⟩
      refine ite2 (fun y => ?_) (fun y => ?_)
      · have y1 : ov = 0 := V.int.inj (of_decide_eq_true y)
        refine ⟨_, rfl, ?_⟩
        rw [wk.stop hp0 y1]
        exact k p0 H8 (s7'.trans s8) hp0
      · have y1 : ov ≠ 0 := fun e => y (decide_eq_true (by rw [e]))
        have nx := wk.next hp0 hp ev hq y1
        refine ⟨_, rfl, _, rfl, q.1, q.2.1, rfl, ?_⟩
        have gb : -(2 ^ 64) < Bk.gain q.1 q.2.1 ∧ Bk.gain q.1 q.2.1 < 2 ^ 64 := by cases q.1 <;> cases q.2.1 <;> decide
        refine ⟨_, rfl, _, rfl, _, _, rfl, rfl, .inl gb, _, _, rfl, rfl, _, rfl, ?_⟩
        dsimp only
        have fin : ∀ st, st = (if Bk.gain q.1 q.2.1 * ov < 0 then min q.2.2 (if ov < 0 then -ov else ov) else q.2.2) → Wlk rs p0 (i + 1) (ov + Bk.gain q.1 q.2.1 * st) (plc + st) := fun st e => by rw [e]; exact nx
        refine ite2 (fun x => ?_) (fun x => ?_)
        · have x1 : Bk.gain q.1 q.2.1 * ov < 0 := of_decide_eq_true x
          refine ⟨_, rfl, _, rfl, _, rfl, _, _, rfl, ?_⟩
          refine ⟨_, rfl, _, rfl, _, rfl, _, _, rfl, rfl, .inl gb, _, _, rfl, rfl, ?_⟩
          refine ⟨_, rfl, _, rfl, _, _, rfl, rfl, ?_⟩
          exact ⟨_, _, _, _, _, _, _, rfl, s8, fin _ (by rw [if_pos x1, abs_min])⟩
        · have x1 : ¬ Bk.gain q.1 q.2.1 * ov < 0 := fun e => x (decide_eq_true e)
          refine ⟨_, rfl, ?_⟩
          refine ⟨_, rfl, _, rfl, _, rfl, _, _, rfl, rfl, .inl gb, _, _, rfl, rfl, ?_⟩
          refine ⟨_, rfl, _, rfl, _, _, rfl, rfl, ?_⟩
          exact ⟨_, _, _, _, _, _, _, rfl, s8, fin _ (by rw [if_neg x1])⟩
    · rintro σ H8 ⟨ov, plc, z6, z7, z8, z9, z10, rfl, s8, wk⟩
      refine ⟨_, rfl, ?_⟩
      rw [lz] at wk
      rw [wk.last hp0 hp ev]
      exact k p0 H8 (s7'.trans s8) hp0
end
end Q9

set_option linter.all false
/-! among two heirs -/
namespace L2
open Bk
end L2

set_option linter.all false
/-! shares of a bank dealt are in order, none touching; moved_apart is partP -/
namespace L2
open Bk
/-- pieces in order from lo to L, none touching -/
def InO (L : Int) : Int → List Pc → Prop
  | _, [] => True
  | lo, p :: r => lo ≤ p.1 ∧ p.1 < p.2 ∧ p.2 ≤ L ∧ InO L (p.2 + 1) r
theorem InO.lo {L : Int} : ∀ {ps : List Pc} {a b : Int}, InO L a ps → b ≤ a → InO L b ps
  | [], _, _, _, _ => True.intro
  | p :: r, a, b, h, hb => ⟨by have := h.1; omega, h.2.1, h.2.2.1, h.2.2.2⟩
theorem InO.hi {L M : Int} (hm : L ≤ M) : ∀ {ps : List Pc} {a : Int}, InO L a ps → InO M a ps
  | [], _, _ => True.intro
  | p :: r, a, h => ⟨h.1, h.2.1, by have := h.2.2.1; omega, InO.hi hm h.2.2.2⟩
theorem InO.far {L d : Int} : ∀ {ps : List Pc} {a : Int}, InO L a ps → InO (L + d) (a + d) (farP d ps)
  | [], _, _ => True.intro
  | p :: r, a, h => by
    have ih := InO.far (d := d) h.2.2.2
    obtain ⟨h1, h2, h3, _⟩ := h
    refine ⟨?_, ?_, ?_, ih.lo ?_⟩
    · show a + d ≤ p.1 + d; omega
    · show p.1 + d < p.2 + d; omega
    · show p.2 + d ≤ L + d; omega
    · show p.2 + d + 1 ≤ p.2 + 1 + d; omega
theorem partP_cons (t d : Int) (p : Pc) (r : List Pc) : partP t d (p :: r) = part1 t d p ++ partP t d r := by simp [partP]
theorem InO.part {L t d : Int} (hd : 0 < d) : ∀ {ps : List Pc} {a : Int}, InO L a ps → InO (L + d) (if a ≤ t then a else a + d) (partP t d ps)
  | [], _, _ => True.intro
  | p :: r, a, h => by
    have ih := InO.part (t := t) hd h.2.2.2
    obtain ⟨h1, h2, h3, _⟩ := h
    rw [partP_cons]
    unfold part1
    by_cases z1 : p.2 ≤ t
    · rw [if_pos z1, if_pos (by omega)]
      refine ⟨h1, h2, by omega, ih.lo ?_⟩
      split <;> omega
    · rw [if_neg z1]
      rw [if_neg (show ¬ p.2 + 1 ≤ t by omega)] at ih
      by_cases z2 : t ≤ p.1
      · rw [if_pos z2]
        refine ⟨?_, ?_, ?_, ih.lo ?_⟩
        · show _ ≤ p.1 + d
          split <;> omega
        · show p.1 + d < p.2 + d; omega
        · show p.2 + d ≤ L + d; omega
        · show p.2 + d + 1 ≤ p.2 + 1 + d; omega
      · rw [if_neg z2, if_pos (by omega)]
        refine ⟨h1, ?_, ?_, ?_, ?_, ?_, ih.lo ?_⟩
        · show p.1 < t; omega
        · show t ≤ L + d; omega
        · show t + 1 ≤ t + d; omega
        · show t + d < p.2 + d; omega
        · show p.2 + d ≤ L + d; omega
        · show p.2 + d + 1 ≤ p.2 + 1 + d; omega
/-- what moved_apart makes of a share -/
def aheadP (t : Int) (ps : List Pc) : List Pc := (ps.filter fun p => decide (p.1 < t)).map fun p => (p.1, min p.2 t)
def behindP (t : Int) (ps : List Pc) : List Pc := (ps.filter fun p => decide (t < p.2)).map fun p => (max p.1 t, p.2)
theorem ahead_none {L t : Int} : ∀ {ps : List Pc} {a : Int}, InO L a ps → t ≤ a → aheadP t ps = []
  | [], _, _, _ => rfl
  | p :: r, a, h, ht => by
    have ih := ahead_none (t := t) h.2.2.2 (by have := h.1; have := h.2.1; omega)
    have : ¬ p.1 < t := by have := h.1; omega
    unfold aheadP at ih ⊢
    rw [List.filter_cons, if_neg (by simpa using this)]
    exact ih
theorem apart_eq {L t d : Int} : ∀ {ps : List Pc} {a : Int}, InO L a ps → aheadP t ps ++ farP d (behindP t ps) = partP t d ps
  | [], _, _ => rfl
  | p :: r, a, h => by
    have ih := apart_eq (t := t) (d := d) h.2.2.2
    have an : t ≤ p.2 + 1 → aheadP t r = [] := fun z => ahead_none h.2.2.2 z
    obtain ⟨h1, h2, h3, _⟩ := h
    rw [partP_cons]
    unfold part1
    have ca : aheadP t (p :: r) = if p.1 < t then (p.1, min p.2 t) :: aheadP t r else aheadP t r := by
      unfold aheadP
      by_cases z : p.1 < t
      · rw [List.filter_cons, if_pos (by simpa using z), if_pos z]; rfl
      · rw [List.filter_cons, if_neg (by simpa using z), if_neg z]
    have cb : behindP t (p :: r) = if t < p.2 then (max p.1 t, p.2) :: behindP t r else behindP t r := by
      unfold behindP
      by_cases z : t < p.2
      · rw [List.filter_cons, if_pos (by simpa using z), if_pos z]; rfl
      · rw [List.filter_cons, if_neg (by simpa using z), if_neg z]
    rw [ca, cb]
    by_cases z1 : p.2 ≤ t
    · rw [if_pos z1, if_pos (by omega), if_neg (by omega), ← ih, show min p.2 t = p.2 by omega]
      rfl
    · rw [if_neg z1, if_pos (show t < p.2 by omega)]
      rw [an (by omega)] at ih ⊢
      by_cases z2 : t ≤ p.1
      · rw [if_pos z2, if_neg (by omega), ← ih, show max p.1 t = p.1 by omega]
        rfl
      · rw [if_neg z2, if_pos (by omega), ← ih, show max p.1 t = t by omega, show min p.2 t = t by omega]
        rfl
theorem Dealt.ino : ∀ {n : Nat} {rs : List Rw} {S : List (List Pc)}, Dealt n rs S → Alt rs → (∀ r ∈ rs, 0 < r.2) → (∀ g, sm g rs % 2 ^ n = 0) → ∀ s ∈ S, InO (tot rs) 0 s
  | _, rs, _, .one, _, hp, _, s, hs => by
    rw [List.mem_singleton.mp hs]
    unfold wl
    by_cases z : 0 < tot rs
    · rw [List.filter_cons, if_pos (by simpa using z)]
      exact ⟨Int.le_refl _, z, Int.le_refl _, True.intro⟩
    · rw [List.filter_cons, if_neg (by simpa using z)]
      exact True.intro
  | _, rs, _, @Dealt.more n _ p A B h a b, al, hp, ev, s, hs => by
    have ev2 : ∀ g, sm g rs % 2 = 0 := fun g => mod_two (ev g)
    have h0 : ∀ r ∈ rs, 0 ≤ r.2 := fun r hr => Int.le_of_lt (hp r hr)
    have hc := half_cut h al hp ev2
    have c1 := hc true
    have c2 := hc false
    have t0 := tot_sm rs
    have t1 := tot_sm (cutR rs p (p + tot rs / 2))
    have t2 := tot_sm (restR rs p (p + tot rs / 2))
    have e1 : tot (cutR rs p (p + tot rs / 2)) = tot rs / 2 := by omega
    have e2 : tot (restR rs p (p + tot rs / 2)) = tot rs / 2 := by omega
    have hn := h.nn
    have hl := h.le
    have ht := tot_nonneg rs h0
    rcases List.mem_append.mp hs with y | y
    · obtain ⟨q, hq, rfl⟩ := List.mem_map.mp y
      have ih := a.ino (cut_good _ _).1 (cut_good _ _).2 (fun g => half_mod (hc g).1 (ev g)) q hq
      rw [e1] at ih
      exact ((ih.far (d := p)).hi (M := tot rs) (by omega)).lo (by omega)
    · obtain ⟨q, hq, rfl⟩ := List.mem_map.mp y
      have ih := b.ino (rest_good _ _ al hp).1 (rest_good _ _ al hp).2 (fun g => half_mod (hc g).2 (ev g)) q hq
      rw [e2] at ih
      by_cases z : 0 < tot rs / 2
      · have := ih.part (t := p) z
        rw [if_pos hn] at this
        exact this.hi (by omega)
      · -- no length: no pieces
        cases q with
        | nil => exact True.intro
        | cons x r =>
          obtain ⟨i1, i2, i3, _⟩ := ih
          omega
/-- the rest has at most one stretch more -/
theorem pos_two (s e : Int) (hse : s ≤ e) (L : Int) : ∀ (rs : List Rw) (b : Int), (∀ r ∈ rs, 0 < r.2) → (pos (part b 0 s rs)).length + (pos (part b e L rs)).length ≤ rs.length + 1
  | [], b, _ => by simp [part, pos]
  | r :: t, b, h => by
    have hr := h r (by simp)
    have h' : ∀ q ∈ t, 0 < q.2 := fun q hq => h q (by simp [hq])
    have h0' : ∀ q ∈ t, 0 ≤ q.2 := fun q hq => Int.le_of_lt (h' q hq)
    have ih := pos_two s e hse L t (b + r.2) h'
    simp only [part, pos_cons, List.length_cons]
    by_cases z : e < b + r.2
    · have e1 := part_out t (b + r.2) 0 s h0' (by omega)
      rw [e1]
      have l2 := pos_length (part (b + r.2) e L t)
      rw [part_length] at l2
      split <;> split <;> (try simp only [List.length_cons, List.length_nil]) <;> omega
    · have c : ¬ 0 < clip b r.2 e L := by unfold clip; omega
      rw [if_neg c]
      split <;> (try simp only [List.length_cons]) <;> omega
theorem rest_len1 {rs : List Rw} (s e : Int) (hse : s ≤ e) (a : Alt rs) (p : ∀ r ∈ rs, 0 < r.2) : (restR rs s e).length ≤ rs.length + 1 := by
  rw [rest_tidy s e a p]
  have h := tidy_length (pos (part 0 0 s rs) ++ pos (part 0 e (tot rs) rs))
  rw [List.length_append] at h
  have h2 := pos_two s e hse (tot rs) rs 0 p
  omega
end L2

set_option Elab.async false
set_option linter.all false
set_option maxRecDepth 100000
set_option maxHeartbeats 4000000
namespace Q9
open PySem L2
open Bk (Alt)
abbrev sRest : Stmt := top 22
abbrev sMov : Stmt := top 29
abbrev sApart : Stmt := top 30
theorem rows_append {H : Hp} : ∀ {xs ys : List V} {rs ss : List Bk.Rw}, RowsAt H xs rs → RowsAt H ys ss → RowsAt H (xs ++ ys) (rs ++ ss)
  | [], _, [], _, .nil, s => s
  | _ :: _, _, _ :: _, _, .cons r t, s => .cons r (rows_append t s)
section
variable {P : Program} {w : World} {K : PySem.W.Frag} {mg : Str → Option Value} {base : Heap}
seal L2.PSs L2.PS L2.PE L2.PA L2.PT L2.PW
def spRest (K : PySem.W.Frag) (aO : Addr) : Sp := fun vs H Q E => ∃ a xs rs st ev, vs = [.ref a, .int st, ev] ∧ SqL K H a xs ∧ RowsAt H xs rs ∧ rs.length ≤ 500 ∧ (∀ r ∈ rs, 0 < r.2) ∧ Alt rs ∧ EndV ev ∧
  (Off st (lastOf ev (Bk.tot rs)) (Bk.tot rs) → ∀ H', Same H H' → E (.ref aO) none H') ∧
  (¬ Off st (lastOf ev (Bk.tot rs)) (Bk.tot rs) → ∀ p ys H', Same H H' → H p = none → H' p = some (.lst ys) → RowsAt H' ys (Bk.meet (Bk.pos (Bk.part 0 0 st rs)) (Bk.pos (Bk.part 0 (lastOf ev (Bk.tot rs)) (Bk.tot rs) rs))) → Q (.ref p) H')
theorem scRe : FnScope ["bank", "start", "end", "last"] ["bank", "start", "end"] (defScope sRest) := ⟨rfl, rfl, rfl, by decide +kernel, rfl, by decide +kernel, by decide +kernel⟩
theorem ok_rest {f f1 f2 f3 f4 f5 f6 f7 aO : Addr} {fd fd1 fd2 fd3 fd4 fd5 fd6 fd7 : FuncData} {dV : Value} (F : FunG K "rest" "rest" sRest f fd dV) (T : Py mg) (O : OffC K mg aO) (D1 : Df K mg "is_ground" sGround ["value"] f1 fd1) (D2 : Df K mg "is_whole" sWhole ["value"] f2 fd2)
    (D3 : Df K mg "refuse_wrong_row" sRefuse ["row", "place"] f3 fd3) (D4 : Df K mg "tidy" sTidy ["rows"] f4 fd4) (D5 : Df K mg "part" sPart ["bank", "start", "end"] f5 fd5) (D6 : Df K mg "length" sLen ["bank"] f6 fd6) (D7 : Df K mg "checked_end" sCheck ["bank", "start", "end"] f7 fd7) :
    FnOk P w K mg base (CXE P w) 5 f fd ["bank", "start", "end"] (spRest K aO) := by
  have G4 : FnOk P w K mg base CX0 3 f4 fd4 ["rows"] (spTidy K) := ok_tidy D4.fn T D1 D2 D3
  have G5 : FnOk P w K mg base CX0 4 f5 fd5 ["bank", "start", "end"] (spPart K) := ok_part D5.fn T D1 D2 D3 D4
  have G6 : FnOk P w K mg base CX0 1 f6 fd6 ["bank"] (spLen K) := ok_len D6.fn T
  have G7 : FnOk P w K mg base (CXE P w) 2 f7 fd7 ["bank", "start", "end"] (spCheck K aO) := ok_check D7.fn T O D6
  refine F.okE scRe (fun vs H Q E h => ?_) (fun cdv A outer s H vs Q E hr h => ?_)
  · obtain ⟨v, r, pl, a, b, rfl, _⟩ := h; rfl
  · obtain ⟨a, xs, rs, st, ev, rfl, hS, hR, hl, hpos, halt, hev, kE, kQ⟩ := h
    refine ⟨_, pss_cons (ps_set (i := 3) scRe.nd rfl (Or.inl rfl) (pe_call G7 (hr.mono (by decide)) rfl D7.gl D7.fn.kp D7.bd .nil pass_on (pa_cons (pv 0) (pa_cons (pv 1) (pa_cons (pv 2) pa_nil)))))
      (pss_one (ps_ret (pe_call G4 (hr.mono (by decide)) rfl D4.gl D4.fn.kp D4.bd .nil pass0 (pa_cons (pe_op op_cat (pe_call G5 hr rfl D5.gl D5.fn.kp D5.bd .nil pass0 (pa_cons (pv 0) (pa_cons pe_int (pa_cons (pv 1) pa_nil))))
        (pe_call G5 hr rfl D5.gl D5.fn.kp D5.bd .nil pass0 (pa_cons (pv 0) (pa_cons (pv 3) (pa_cons (pe_call G6 (hr.mono (by decide)) rfl D6.gl D6.fn.kp D6.bd .nil pass0 (pa_cons (pv 0) pa_nil)) pa_nil))))) pa_nil)))), ?_⟩
    refine ⟨_, rfl, _, rfl, _, rfl, a, xs, rs, st, ev, rfl, hS, hR, by omega, hev, kE, fun no H1 s1 => ?_⟩
    refine ⟨_, rfl, _, rfl, a, xs, rs, 0, _, rfl, s1.seq hS, hR.mono s1.tps, by omega, fun p ys H2 s2 hp h1 h2 => ?_⟩
    have s12 := s1.trans s2
    refine ⟨_, rfl, _, rfl, _, rfl, a, xs, rs, rfl, s12.seq hS, hR.mono s12.tps, by omega, fun H3 s3 => ?_⟩
    have s13 := s12.trans s3
    refine ⟨a, xs, rs, _, _, rfl, s13.seq hS, hR.mono s13.tps, by omega, fun q zs H4 s4 hq h3 h4 => ?_⟩
    have s14 := s13.trans s4
    have h1' : H4 p = some (.lst ys) := s4 _ _ (s3 _ _ h1)
    have h2' := h2.mono (s3.trans s4).tps
    rw [Bk.tidy_part _ _ halt hpos] at h2' h4
    have l1 := Paired.length h2'
    have l2 := Paired.length h4
    have m1 := Bk.pos_length (Bk.part 0 0 st rs)
    have m2 := Bk.pos_length (Bk.part 0 (lastOf ev (Bk.tot rs)) (Bk.tot rs) rs)
    rw [Bk.part_length] at m1 m2
    refine ⟨p, q, ys, zs, rfl, rfl, h1', h3, Nat.le_trans (m := 1000) (by omega) (by decide), fun c hc => ?_⟩
    have hcr := (rows_append h2' h4).mono (same_new (o := .lst (ys ++ zs)) hc).tps
    refine ⟨c, _, _, rfl, SqL.of upd_same, hcr, fun r hr => ?_, by rw [List.length_append]; omega, fun p' ys' H' s' hp' h5 h6 => ?_⟩
    · rcases List.mem_append.mp hr with h | h <;> exact Int.le_of_lt (Bk.pos_pos r h)
    · rw [Bk.tidy_meet (Bk.part_alt rs 0 _ _ halt hpos) (Bk.part_alt rs 0 _ _ halt hpos) Bk.pos_pos Bk.pos_pos] at h6
      exact kQ no p' ys' H' ((s14.trans (same_new hc)).trans s') ((s14.trans (same_new hc)).free hp') h5 h6
/-! moved -/
def spMov (K : PySem.W.Frag) : Sp := fun vs H Q _ => ∃ a ps d, vs = [.ref a, .int d] ∧ ShAt H a ps ∧ ps.length ≤ 1000 ∧ ∀ p H', Same H H' → H p = none → ShAt H' p (farP d ps) → Q (.ref p) H'
theorem scMo : FnScope ["share", "far"] ["share", "far"] (defScope sMov) := ⟨rfl, rfl, rfl, by decide +kernel, rfl, by decide +kernel, by decide +kernel⟩
theorem ok_mov {f : Addr} {fd : FuncData} (F : FunG K "moved" "moved" sMov f fd .none) (T : Py mg) : FnOk P w K mg base CX0 1 f fd ["share", "far"] (spMov K) := by
  refine F.ok scMo (fun vs H Q E h => ?_) (fun cdv A outer s H vs Q E hr h => ?_)
  · obtain ⟨_, _, _, rfl, _⟩ := h; rfl
  · obtain ⟨a, ps, d, rfl, ⟨xs, ha, hP⟩, hl, k⟩ := h
    refine ⟨_, pss_one (ps_ret (pe_comp (Nc := ["start", "end", "far"]) (fv := [none, none, some 1]) ⟨rfl, by decide +kernel, rfl, by decide +kernel, ⟨rfl, trivial⟩, rfl, rfl, ⟨⟨rfl, rfl, rfl, rfl⟩, trivial⟩⟩ rfl (pi_list (pv 0))
      (fun _ _ _ _ _ => pg_tupK (K := K) (n := 2) rfl rfl (pgs_cons (pg_name (i := 0) (show (["start", "end", "far"] : List Str).Nodup by decide +kernel) rfl (Or.inl rfl)) (pgs_cons (pg_name (i := 1) (show (["start", "end", "far"] : List Str).Nodup by decide +kernel) rfl (Or.inl rfl)) pgs_nil)))
      (fun _ _ _ _ _ => pif_nil) (fun _ _ _ _ _ => pe_tup (pa_cons (pe_op op_add (pv 0) (pv 2)) (pa_cons (pe_op op_add (pv 1) (pv 2)) pa_nil))))), ?_⟩
    have hlen := Paired.length hP
    refine ⟨_, rfl, a, rfl, ⟨_, SqL.of ha⟩, fun p hp => ?_⟩
    refine comp_list (K := K) (a := a) (xs := xs) (fun i ys H2 => Same H H2 ∧ H2 p = some (.lst ys) ∧ PcsAt H2 ys (farP d (ps.take i))) ⟨same_new hp, upd_same, .nil⟩ (fun i ys H2 h => ⟨h.1.seq (SqL.of ha), h.2.1⟩) ?_ ?_
    · rintro i x ys H2 hi hx ⟨sm, hy, hP2⟩
      obtain ⟨r, hr1, hr2⟩ := paired_get hP hx
      obtain ⟨q, rfl, hq⟩ := hr2.mono sm.tps
      have ly := Paired.length hP2
      refine ⟨q, _, rfl, SqT.of hq, rfl, _, _, rfl, _, _, rfl, rfl, ((Wk.refl _).set rfl).set rfl, yes ?_⟩
      refine ⟨_, rfl, _, rfl, _, _, rfl, rfl, _, rfl, _, rfl, _, _, rfl, rfl, by show 2 ≤ sizeLine; decide, fun Z hZ => ?_⟩
      have g1 := same_new (o := .tup [.int (r.1 + d), .int (r.2 + d)]) hZ
      have hy1 := g1 _ _ hy
      refine ⟨hy1, ?_, nx hi ⟨(sm.trans g1).write hp, upd_same, ?_⟩⟩
      · refine Nat.lt_of_le_of_lt (m := 1000) ?_ (by decide)
        unfold farP at ly
        simp only [List.length_map, List.length_take] at ly ⊢; omega
      · have e : farP d (ps.take (i + 1)) = farP d (ps.take i) ++ [(r.1 + d, r.2 + d)] := by rw [take_snoc hr1]; simp [farP]
        rw [e]
        have tps : ∀ o, Tps (upd H2 Z (.tup [.int (r.1 + d), .int (r.2 + d)])) (upd (upd H2 Z (.tup [.int (r.1 + d), .int (r.2 + d)])) p o) := fun o b zs z => by rw [upd_ne (fun y => by rw [y, hy1] at z; cases z)]; exact z
        exact Paired.snoc ((hP2.mono g1.tps).mono (tps _)) ⟨Z, rfl, tps _ _ _ upd_same⟩
    · rintro ys H2 ⟨sm, hy, hP2⟩
      rw [hlen, List.take_length] at hP2
      exact k p H2 sm hp ⟨ys, hy, hP2⟩
/-! moved_apart -/
def spApart (K : PySem.W.Frag) : Sp := fun vs H Q _ => ∃ a ps t e, vs = [.ref a, .int t, .int e] ∧ ShAt H a ps ∧ ps.length ≤ 400 ∧ ∀ p H', Same H H' → H p = none → ShAt H' p (aheadP t ps ++ farP (e - t) (behindP t ps)) → Q (.ref p) H'
theorem scAp : FnScope ["share", "start", "end", "ahead", "behind"] ["share", "start", "end"] (defScope sApart) := ⟨rfl, rfl, rfl, by decide +kernel, rfl, by decide +kernel, by decide +kernel⟩
theorem pcs_append {H : Hp} : ∀ {xs ys : List V} {rs ss : List Pc}, PcsAt H xs rs → PcsAt H ys ss → PcsAt H (xs ++ ys) (rs ++ ss)
  | [], _, [], _, .nil, s => s
  | _ :: _, _, _ :: _, _, .cons r t, s => .cons r (pcs_append t s)
theorem ok_apart {f f1 : Addr} {fd fd1 : FuncData} (F : FunG K "moved_apart" "moved_apart" sApart f fd .none) (T : Py mg) (D1 : Df K mg "moved" sMov ["share", "far"] f1 fd1) : FnOk P w K mg base CX0 2 f fd ["share", "start", "end"] (spApart K) := by
  have G1 : FnOk P w K mg base CX0 1 f1 fd1 ["share", "far"] (spMov K) := ok_mov D1.fn T
  refine F.ok scAp (fun vs H Q E h => ?_) (fun cdv A outer s H vs Q E hr h => ?_)
  · obtain ⟨_, _, _, _, rfl, _⟩ := h; rfl
  · obtain ⟨a, ps, t, e, rfl, ⟨xs, ha, hP⟩, hl, k⟩ := h
    refine ⟨_, pss_cons (ps_comp (i := 3) (Nc := ["begin", "last", "start"]) (fv := [none, none, some 1]) ⟨rfl, by decide +kernel, rfl, by decide +kernel, ⟨rfl, trivial⟩, rfl, rfl, ⟨⟨rfl, rfl, rfl, rfl⟩, trivial⟩⟩ scAp.nd rfl (Or.inl rfl) rfl (pi_list (pv 0))
        (fun _ _ _ _ _ => pg_tupK (K := K) (n := 2) rfl rfl (pgs_cons (pg_name (i := 0) (show (["begin", "last", "start"] : List Str).Nodup by decide +kernel) rfl (Or.inl rfl)) (pgs_cons (pg_name (i := 1) (show (["begin", "last", "start"] : List Str).Nodup by decide +kernel) rfl (Or.inl rfl)) pgs_nil)))
        (fun _ _ _ _ _ => pif_one (pt_cmpR op_lt (pv 0) (pv 2) (nomark _))) (fun _ _ _ _ _ => pe_tup (pa_cons (pv 0) (pa_cons (pe_callB (call_min2 rfl) rfl T.min PyProof.Rows.boot_min (pa_cons (pv 1) (pa_cons (pv 2) pa_nil))) pa_nil))))
      (pss_cons (ps_comp (i := 4) (Nc := ["begin", "last", "start"]) (fv := [none, none, some 1]) ⟨rfl, by decide +kernel, rfl, by decide +kernel, ⟨rfl, trivial⟩, rfl, rfl, ⟨⟨rfl, rfl, rfl, rfl⟩, trivial⟩⟩ scAp.nd rfl (Or.inl rfl) rfl (pi_list (pv 0))
        (fun _ _ _ _ _ => pg_tupK (K := K) (n := 2) rfl rfl (pgs_cons (pg_name (i := 0) (show (["begin", "last", "start"] : List Str).Nodup by decide +kernel) rfl (Or.inl rfl)) (pgs_cons (pg_name (i := 1) (show (["begin", "last", "start"] : List Str).Nodup by decide +kernel) rfl (Or.inl rfl)) pgs_nil)))
        (fun _ _ _ _ _ => pif_one (pt_cmpR op_gt (pv 1) (pv 2) (nomark _))) (fun _ _ _ _ _ => pe_tup (pa_cons (pe_callB (call_max2 rfl) rfl T.max PyProof.Rows.boot_max (pa_cons (pv 0) (pa_cons (pv 2) pa_nil))) (pa_cons (pv 1) pa_nil))))
      (pss_one (ps_ret (pe_op op_cat (pv 3) (pe_call G1 hr rfl D1.gl D1.fn.kp D1.bd .nil pass0 (pa_cons (pv 4) (pa_cons (pe_op op_sub (pv 2) (pv 1)) pa_nil))))))), ?_⟩
    have hlen := Paired.length hP
    have fl : ∀ (q : Pc → Bool) (i : Nat), ((ps.take i).filter q).length ≤ 400 := fun q i => by
      have h1 := List.length_filter_le q (ps.take i)
      rw [List.length_take] at h1
      omega
    refine ⟨_, rfl, a, rfl, ⟨_, SqL.of ha⟩, fun p hp => ?_⟩
    refine comp_list (K := K) (a := a) (xs := xs) (fun i ys H2 => Same H H2 ∧ H2 p = some (.lst ys) ∧ PcsAt H2 ys (aheadP t (ps.take i))) ⟨same_new hp, upd_same, .nil⟩ (fun i ys H2 h => ⟨h.1.seq (SqL.of ha), h.2.1⟩) ?_ ?_
    · rintro i x ys H2 hi hx ⟨sm, hy, hP2⟩
      obtain ⟨r, hr1, hr2⟩ := paired_get hP hx
      obtain ⟨q, rfl, hq⟩ := hr2.mono sm.tps
      have ly := Paired.length hP2
      refine ⟨q, _, rfl, SqT.of hq, rfl, _, _, rfl, _, _, rfl, rfl, ((Wk.refl _).set rfl).set rfl, ?_⟩
      refine ⟨_, rfl, _, rfl, _, _, rfl, rfl, _, rfl, ?_⟩
      refine ite2 (fun z => ?_) (fun z => ?_)
      · have z1 : r.1 < t := of_decide_eq_true z
        refine ⟨_, rfl, _, rfl, _, rfl, _, _, rfl, by show 2 ≤ sizeLine; decide, fun Z hZ => ?_⟩
        rw [min_eq] at *
        have g1 := same_new (o := .tup [.int r.1, .int (min r.2 t)]) hZ
        have hy1 := g1 _ _ hy
        refine ⟨hy1, ?_, nx hi ⟨(sm.trans g1).write hp, upd_same, ?_⟩⟩
        · refine Nat.lt_of_le_of_lt (m := 1000) ?_ (by decide)
          have := fl (fun p => decide (p.1 < t)) i
          unfold aheadP at ly
          rw [List.length_map] at ly
          omega
        · have e1 : aheadP t (ps.take (i + 1)) = aheadP t (ps.take i) ++ [(r.1, min r.2 t)] := by rw [take_snoc hr1]; simp [aheadP, z1]
          rw [e1]
          exact Paired.snoc ((hP2.mono g1.tps).mono (tps_lst hy1)) ⟨Z, rfl, tps_lst hy1 _ _ upd_same⟩
      · have z1 : ¬ r.1 < t := fun y => z (decide_eq_true y)
        exact nx hi ⟨sm, hy, by rw [take_snoc hr1]; simpa [aheadP, z1] using hP2⟩
    rintro ys H2 ⟨s2, hy, hA⟩
    rw [hlen, List.take_length] at hA
    have ha2 := s2 _ _ ha
    have hP2 : PcsAt H2 xs ps := PcsAt.mono hP s2.tps
    refine ⟨_, rfl, a, rfl, ⟨_, SqL.of ha2⟩, fun p' hp' => ?_⟩
    refine comp_list (K := K) (a := a) (xs := xs) (fun i zs H3 => Same H2 H3 ∧ H3 p' = some (.lst zs) ∧ PcsAt H3 zs (behindP t (ps.take i))) ⟨same_new hp', upd_same, .nil⟩ (fun i zs H3 h => ⟨h.1.seq (SqL.of ha2), h.2.1⟩) ?_ ?_
    · rintro i x zs H3 hi hx ⟨sm, hz, hP3⟩
      obtain ⟨r, hr1, hr2⟩ := paired_get hP2 hx
      obtain ⟨q, rfl, hq⟩ := hr2.mono sm.tps
      have ly := Paired.length hP3
      refine ⟨q, _, rfl, SqT.of hq, rfl, _, _, rfl, _, _, rfl, rfl, ((Wk.refl _).set rfl).set rfl, ?_⟩
      refine ⟨_, rfl, _, rfl, _, _, rfl, rfl, _, rfl, ?_⟩
      refine ite2 (fun z => ?_) (fun z => ?_)
      · have z1 : t < r.2 := of_decide_eq_true z
        refine ⟨_, rfl, _, rfl, _, _, rfl, _, rfl, by show 2 ≤ sizeLine; decide, fun Z hZ => ?_⟩
        rw [max_eq] at *
        have g1 := same_new (o := .tup [.int (max r.1 t), .int r.2]) hZ
        have hz1 := g1 _ _ hz
        refine ⟨hz1, ?_, nx hi ⟨(sm.trans g1).write hp', upd_same, ?_⟩⟩
        · refine Nat.lt_of_le_of_lt (m := 1000) ?_ (by decide)
          have := fl (fun p => decide (t < p.2)) i
          unfold behindP at ly
          rw [List.length_map] at ly
          omega
        · have e1 : behindP t (ps.take (i + 1)) = behindP t (ps.take i) ++ [(max r.1 t, r.2)] := by rw [take_snoc hr1]; simp [behindP, z1]
          rw [e1]
          exact Paired.snoc ((hP3.mono g1.tps).mono (tps_lst hz1)) ⟨Z, rfl, tps_lst hz1 _ _ upd_same⟩
      · have z1 : ¬ t < r.2 := fun y => z (decide_eq_true y)
        exact nx hi ⟨sm, hz, by rw [take_snoc hr1]; simpa [behindP, z1] using hP3⟩
    rintro zs H3 ⟨s3, hz, hB⟩
    rw [hlen, List.take_length] at hB
    have lB : (behindP t ps).length ≤ 400 := by
      have h1 := List.length_filter_le (fun p : Pc => decide (t < p.2)) ps
      unfold behindP
      rw [List.length_map]
      omega
    have lA : (aheadP t ps).length ≤ 400 := by
      have h1 := List.length_filter_le (fun p : Pc => decide (p.1 < t)) ps
      unfold aheadP
      rw [List.length_map]
      omega
    refine ⟨_, rfl, _, rfl, _, rfl, _, rfl, _, _, rfl, rfl, p', behindP t ps, e - t, rfl, ⟨zs, hz, hB⟩, by omega, fun p4 H4 s4 hp4 h4 => ?_⟩
    obtain ⟨ws, hw, hF⟩ := h4
    have hy4 := s4 _ _ (s3 _ _ hy)
    have l1 := Paired.length hA
    have l2 := Paired.length hF
    have l3 : (farP (e - t) (behindP t ps)).length = (behindP t ps).length := by unfold farP; rw [List.length_map]
    refine ⟨p, p4, ys, ws, rfl, rfl, hy4, hw, Nat.le_trans (m := 1000) (by omega) (by decide), fun c hc => ?_⟩
    have s34 := (s2.trans s3).trans s4
    refine k c _ (s34.trans (same_new hc)) (s34.free hc) ⟨_, upd_same, ?_⟩
    exact PcsAt.mono (pcs_append (PcsAt.mono hA (s3.trans s4).tps) hF) (same_new hc).tps
end
end Q9

set_option Elab.async false
set_option linter.all false
set_option maxRecDepth 100000
set_option maxHeartbeats 4000000
namespace Q9
open PySem L2
open Bk (Alt)
abbrev sDealt : Stmt := top 31
abbrev sDeal : Stmt := top 32
theorem shs_mem {H : Hp} : ∀ {as : List Addr} {S : List (List Pc)} {r : Addr}, ShsAt H as S → H r = none → r ∉ as
  | _, _, r, .nil, _, h => by simp at h
  | _, _, r, .cons ⟨xs, e, _⟩ t, n, h => by
    rcases List.mem_cons.mp h with z | z
    · rw [← z, n] at e; cases e
    · exact shs_mem t n z
theorem shs_append {H : Hp} : ∀ {xs ys : List Addr} {rs ss : List (List Pc)}, ShsAt H xs rs → ShsAt H ys ss → ShsAt H (xs ++ ys) (rs ++ ss)
  | [], _, [], _, .nil, s => s
  | _ :: _, _, _ :: _, _, .cons r t, s => .cons r (shs_append t s)
/-- what the defs under deal are, beyond those under half_place -/
structure Dv (K : PySem.W.Frag) (mg : Str → Option Value) (fH fR fM fA fD : Addr) (dH dR dM dA dD : FuncData) : Prop where
  DH : Df K mg "half_place" sHalf ["bank"] fH dH
  DR : DfD K mg "rest" sRest fR dR
  DM : Df K mg "moved" sMov ["share", "far"] fM dM
  DA : Df K mg "moved_apart" sApart ["share", "start", "end"] fA dA
  DD : Df K mg "dealt" sDealt ["bank", "heirs"] fD dD
section
variable {P : Program} {w : World} {K : PySem.W.Frag} {mg : Str → Option Value} {base : Heap} {aO f0 f1 f2 f3 f4 f5 f6 f7 f8 f9 f10 f11 f12 fH fR fM fA fD : Addr} {d0 d1 d2 d3 d4 d5 d6 d7 d8 d9 d10 d11 d12 dH dR dM dA dD : FuncData}
def spDealt (K : PySem.W.Frag) (n : Nat) : Sp := fun vs H Q _ => ∃ a xs rs, vs = [.ref a, .int (2 ^ n)] ∧ SqL K H a xs ∧ RowsAt H xs rs ∧ (∀ r ∈ rs, 0 < r.2) ∧ Alt rs ∧ rs.length + n ≤ 400 ∧ n ≤ 4 ∧ (∀ g, Bk.sm g rs % 2 ^ n = 0) ∧
  ∀ p as S H', Same H H' → H p = none → (∀ b ∈ as, H b = none) → (p :: as).Nodup → Dealt n rs S → SsAt H' p as S → Q (.ref p) H'
theorem scDt : FnScope ["bank", "heirs", "whole", "share", "start", "end", "taken", "left"] ["bank", "heirs"] (defScope sDealt) := ⟨rfl, rfl, rfl, by decide +kernel, rfl, by decide +kernel, by decide +kernel⟩
seal L2.PSs L2.PS L2.PE L2.PA L2.PT L2.PW
theorem ok_dealt0 (F : FunG K "dealt" "dealt" sDealt fD dD .none) (V0 : Hv K mg aO f0 f1 f2 f3 f4 f5 f6 f7 f8 f9 f10 f11 f12 d0 d1 d2 d3 d4 d5 d6 d7 d8 d9 d10 d11 d12) : FnOk P w K mg base (CXE P w) 7 fD dD ["bank", "heirs"] (spDealt K 0) := by
  have T := V0.T
  have GL : FnOk P w K mg base CX0 1 f4 d4 ["bank"] (spLen K) := ok_len V0.D4.fn T
  refine F.okE scDt (fun vs H Q E h => ?_) (fun cdv A outer s H vs Q E hr h => ?_)
  · obtain ⟨_, _, _, rfl, _⟩ := h; rfl
  · obtain ⟨a, xs, rs, rfl, hS, hR, hp, ha, hl, _, _, k⟩ := h
    refine ⟨_, pss_cons (ps_set (i := 2) scDt.nd rfl (Or.inl rfl) (pe_call GL (hr.mono (by decide)) rfl V0.D4.gl V0.D4.fn.kp V0.D4.bd .nil pass0 (pa_cons (pv 0) pa_nil)))
      (pss_cons (ps_if (pt_cmpR op_eq (pv 1) pe_int (nomark _))
        (pss_cons (ps_set (i := 3) scDt.nd rfl (Or.inl rfl) (pe_ifExp (pt_cmpR op_gt (pv 2) pe_int (nomark _)) (pe_lst (pa_cons (pe_tup (pa_cons pe_int (pa_cons (pv 2) pa_nil))) pa_nil)) (pe_lst pa_nil)))
        (pss_one (ps_ret (pe_lst (pa_cons (pv 3) pa_nil))))) pss_nil)
      pss_never), ?_⟩
    refine ⟨_, rfl, a, xs, rs, rfl, hS, hR, by omega, fun H1 s1 => ?_⟩
    refine ⟨_, rfl, rfl, true, rfl, iteT ?_⟩
    refine ⟨_, rfl, _, _, rfl, rfl, _, rfl, ?_⟩
    have fin : ∀ (sh : Addr) (H2 : Hp), Same H H2 → H sh = none → ShAt H2 sh (wl [(0, Bk.tot rs)]) → ∀ p, H2 p = none → Q (.ref p) (upd H2 p (.lst [.ref sh])) := fun sh H2 s2 h0 hsh p hp => by
      have np : sh ≠ p := fun z => by obtain ⟨zs, q, _⟩ := hsh; rw [z, hp] at q; cases q
      refine k p [sh] _ _ (s2.trans (same_new hp)) (s2.free hp) (fun b hb => by rw [List.mem_singleton.mp hb]; exact h0) (by simp [np.symm]) .one ⟨by rw [upd_same]; rfl, .cons (hsh.mono (same_new hp)) .nil⟩
    refine ite2 (fun z => ?_) (fun z => ?_)
    · have z1 : 0 < Bk.tot rs := of_decide_eq_true z
      refine ⟨_, rfl, by show 2 ≤ sizeLine; decide, fun t ht => ?_⟩
      refine ⟨by show 1 ≤ sizeLine; decide, fun sh hsh => ?_⟩
      refine ⟨_, rfl, by show 1 ≤ sizeLine; decide, fun p hp => ?_⟩
      have s2 := s1.trans (same_new (o := .tup [.int 0, .int (Bk.tot rs)]) ht)
      have w1 : wl [(0, Bk.tot rs)] = [(0, Bk.tot rs)] := by unfold wl; simp [z1]
      refine fin sh _ (s2.trans (same_new hsh)) (s2.free hsh) ?_ p hp
      rw [w1]
      exact ⟨_, upd_same, .cons ⟨t, rfl, same_new hsh _ _ upd_same⟩ .nil⟩
    · have z1 : ¬ 0 < Bk.tot rs := fun y => z (decide_eq_true y)
      refine ⟨Nat.zero_le _, fun sh hsh => ?_⟩
      refine ⟨_, rfl, by show 1 ≤ sizeLine; decide, fun p hp => ?_⟩
      have w1 : wl [(0, Bk.tot rs)] = [] := by unfold wl; simp [z1]
      refine fin sh _ (s1.trans (same_new hsh)) (s1.free hsh) ?_ p hp
      rw [w1]
      exact ⟨_, upd_same, .nil⟩
theorem ok_dealtS {n : Nat} (V0 : Hv K mg aO f0 f1 f2 f3 f4 f5 f6 f7 f8 f9 f10 f11 f12 d0 d1 d2 d3 d4 d5 d6 d7 d8 d9 d10 d11 d12) (V1 : Dv K mg fH fR fM fA fD dH dR dM dA dD) (GD : FnOk P w K mg base (CXE P w) (7 + n) fD dD ["bank", "heirs"] (spDealt K n)) :
    FnOk P w K mg base (CXE P w) (7 + n + 1) fD dD ["bank", "heirs"] (spDealt K (n + 1)) := by
  have T := V0.T
  obtain ⟨dV, FC⟩ := V0.D10.fn
  obtain ⟨dV2, FR⟩ := V1.DR.fn
  have GL : FnOk P w K mg base CX0 1 f4 d4 ["bank"] (spLen K) := ok_len V0.D4.fn T
  have GC : FnOk P w K mg base (CXE P w) 5 f10 d10 ["bank", "start", "end"] (spCut K aO) := ok_cut FC T V0.O V0.D0 V0.D1 V0.D2 V0.D3 V0.D9 V0.D4 V0.D8
  have GR : FnOk P w K mg base (CXE P w) 5 fR dR ["bank", "start", "end"] (spRest K aO) := ok_rest FR T V0.O V0.D0 V0.D1 V0.D2 V0.D3 V0.D9 V0.D4 V0.D8
  have GH : FnOk P w K mg base (CXE P w) 6 fH dH ["bank"] (spHalf K) := ok_half V1.DH.fn V0
  have GM : FnOk P w K mg base CX0 1 fM dM ["share", "far"] (spMov K) := ok_mov V1.DM.fn T
  have GA : FnOk P w K mg base CX0 2 fA dA ["share", "start", "end"] (spApart K) := ok_apart V1.DA.fn T V1.DM
  refine V1.DD.fn.okE scDt (fun vs H Q E h => ?_) (fun cdv A outer s H vs Q E hr h => ?_)
  · obtain ⟨_, _, _, rfl, _⟩ := h; rfl
  · obtain ⟨a, xs, rs, rfl, hS, hR, hp, al, hl, hn4, ev, k⟩ := h
    have r1 : Room 1 (A.deeper (PyProof.Rows.envOfC "dealt" (defScope sDealt) s.heap.objs.size fD cdv)) := hr.mono (by omega)
    have r2 : Room 2 (A.deeper (PyProof.Rows.envOfC "dealt" (defScope sDealt) s.heap.objs.size fD cdv)) := hr.mono (by omega)
    have r5 : Room 5 (A.deeper (PyProof.Rows.envOfC "dealt" (defScope sDealt) s.heap.objs.size fD cdv)) := hr.mono (by omega)
    have r6 : Room 6 (A.deeper (PyProof.Rows.envOfC "dealt" (defScope sDealt) s.heap.objs.size fD cdv)) := hr.mono (by omega)
    refine ⟨_, pss_cons (ps_set (i := 2) scDt.nd rfl (Or.inl rfl) (pe_call GL r1 rfl V0.D4.gl V0.D4.fn.kp V0.D4.bd .nil pass0 (pa_cons (pv 0) pa_nil)))
      (pss_cons (ps_if (pt_cmpR op_eq (pv 1) pe_int (nomark _)) pss_never pss_nil)
      (pss_cons (ps_set (i := 4) scDt.nd rfl (Or.inr rfl) (pe_call GH r6 rfl V1.DH.gl V1.DH.fn.kp V1.DH.bd .nil pass_on (pa_cons (pv 0) pa_nil)))
      (pss_cons (ps_set (i := 5) scDt.nd rfl (Or.inr rfl) (pe_op op_add (pv 4) (pe_op op_fdiv (pv 2) pe_int)))
      (pss_cons (ps_set (i := 6) scDt.nd rfl (Or.inl rfl) (pe_call GD hr rfl V1.DD.gl V1.DD.fn.kp V1.DD.bd .nil pass_on (pa_cons (pe_call GC r5 rfl V0.D10.gl V0.D10.kp V0.D10.b0 .nil pass_on (pa_cons (pv 0) (pa_cons (pv 4) (pa_cons (pv 5) pa_nil)))) (pa_cons (pe_op op_fdiv (pv 1) pe_int) pa_nil))))
      (pss_cons (ps_set (i := 7) scDt.nd rfl (Or.inl rfl) (pe_call GD hr rfl V1.DD.gl V1.DD.fn.kp V1.DD.bd .nil pass_on (pa_cons (pe_call GR r5 rfl V1.DR.gl V1.DR.kp V1.DR.b0 .nil pass_on (pa_cons (pv 0) (pa_cons (pv 4) (pa_cons (pv 5) pa_nil)))) (pa_cons (pe_op op_fdiv (pv 1) pe_int) pa_nil))))
      (pss_one (ps_ret (pe_op op_cat
        (pe_comp (Nc := ["share", "start"]) (fv := [none, some 4]) ⟨rfl, by decide +kernel, rfl, by decide +kernel, ⟨rfl, trivial⟩, rfl, rfl, ⟨⟨rfl, rfl, rfl, rfl⟩, trivial⟩⟩ rfl (pi_list (pv 6))
          (fun _ _ _ _ _ => pg_name (i := 0) (show (["share", "start"] : List Str).Nodup by decide +kernel) rfl (Or.inl rfl)) (fun _ _ _ _ _ => pif_nil)
          (fun _ _ _ _ _ => pe_call GM r1 rfl V1.DM.gl V1.DM.fn.kp V1.DM.bd .nil pass0 (pa_cons (pv 0) (pa_cons (pv 1) pa_nil))))
        (pe_comp (Nc := ["share", "end", "start"]) (fv := [none, some 5, some 4]) ⟨rfl, by decide +kernel, rfl, by decide +kernel, ⟨rfl, rfl, trivial⟩, rfl, rfl, ⟨⟨rfl, rfl, rfl, rfl⟩, ⟨rfl, rfl, rfl, rfl⟩, trivial⟩⟩ rfl (pi_list (pv 7))
          (fun _ _ _ _ _ => pg_name (i := 0) (show (["share", "end", "start"] : List Str).Nodup by decide +kernel) rfl (Or.inl rfl)) (fun _ _ _ _ _ => pif_nil)
          (fun _ _ _ _ _ => pe_call GA r2 rfl V1.DA.gl V1.DA.fn.kp V1.DA.bd .nil pass0 (pa_cons (pv 0) (pa_cons (pv 2) (pa_cons (pv 1) pa_nil))))))))))))), ?_⟩
    have h0 : ∀ r ∈ rs, 0 ≤ r.2 := fun r hr => Int.le_of_lt (hp r hr)
    have ht := Bk.tot_nonneg rs h0
    have ev2 : ∀ g, Bk.sm g rs % 2 = 0 := fun g => mod_two (ev g)
    have e2n : (2 : Int) ^ (n + 1) / 2 = 2 ^ n := by rw [Int.pow_succ]; omega
    have p2n : (0 : Int) < 2 ^ n := Int.pow_pos (by decide)
    refine ⟨_, rfl, a, xs, rs, rfl, hS, hR, by omega, fun H1 s1 => ?_⟩
    refine ⟨_, rfl, rfl, _, rfl, ?_⟩
    refine ite2 (fun z => ?_) (fun _ => ?_)
    · have z1 : (2 : Int) ^ (n + 1) = 1 := V.int.inj (of_decide_eq_true z)
      rw [Int.pow_succ] at z1
      omega
    refine ⟨_, rfl, a, xs, rs, rfl, s1.seq hS, hR.mono s1.tps, hp, al, by omega, ev2, fun pl H2 s2 hH => ?_⟩
    have s2 := s1.trans s2
    have hn := hH.nn
    have hle := hH.le
    refine ⟨_, rfl, _, rfl, _, _, rfl, rfl, ⟨by decide, by decide⟩, _, _, rfl, rfl, ?_⟩
    dsimp only
    have hc := half_cut hH al hp ev2
    have noOff : ¬ Off pl (pl + Bk.tot rs / 2) (Bk.tot rs) := fun off => by
      rcases off with z | z | z <;> omega
    -- the ground taken
    refine ⟨_, rfl, _, rfl, _, rfl, a, xs, rs, pl, .int (pl + Bk.tot rs / 2), rfl, s2.seq hS, hR.mono s2.tps, by omega, .inr ⟨_, rfl⟩, fun off => absurd off noOff, fun no pc yc H3 s3 hpc hcl hrc => ?_⟩
    have s3' := s2.trans s3
    have hrc : RowsAt H3 yc (cutR rs pl (pl + Bk.tot rs / 2)) := hrc
    have l1 := cut_len (rs := rs) pl (pl + Bk.tot rs / 2)
    refine ⟨_, rfl, _, _, rfl, rfl, ⟨by decide, by decide⟩, ?_⟩
    dsimp only
    rw [e2n]
    refine ⟨pc, yc, _, rfl, SqL.of hcl, hrc, (cut_good _ _).2, (cut_good _ _).1, by omega, by omega, fun g => half_mod (hc g).1 (ev g), fun q1 as1 S1 H4 s4 hq1 has1 nd1 D1 SS1 => ?_⟩
    have s4' := s3'.trans s4
    -- the rest
    refine ⟨_, rfl, _, rfl, _, rfl, a, xs, rs, pl, .int (pl + Bk.tot rs / 2), rfl, s4'.seq hS, hR.mono s4'.tps, by omega, hp, al, .inr ⟨_, rfl⟩, fun off => absurd off noOff, fun no pr yr H5 s5 hpr hrl hrr => ?_⟩
    have s5' := s4'.trans s5
    have hrr : RowsAt H5 yr (restR rs pl (pl + Bk.tot rs / 2)) := hrr
    have l2 := rest_len1 (rs := rs) pl (pl + Bk.tot rs / 2) (by omega) al hp
    refine ⟨_, rfl, _, _, rfl, rfl, ⟨by decide, by decide⟩, ?_⟩
    dsimp only
    rw [e2n]
    refine ⟨pr, yr, _, rfl, SqL.of hrl, hrr, (rest_good _ _ al hp).2, (rest_good _ _ al hp).1, by omega, by omega, fun g => half_mod (hc g).2 (ev g), fun q2 as2 S2 H6 s6 hq2 has2 nd2 D2 SS2 => ?_⟩
    have s6' := s5'.trans s6
    have SS1 := SS1.mono (s5.trans s6)
    have ln1 := Paired.length SS1.2
    have ln2 := Paired.length SS2.2
    have dl1 := D1.length
    have dl2 := D2.length
    have p16 : 2 ^ n ≤ 16 := Nat.pow_le_pow_right (n := 2) (by decide) (show n ≤ 4 by omega)
    have big1 : ∀ (i : Nat) (z : List Pc), S1[i]? = some z → z.length ≤ 400 := fun i z hz => by
      have := D1.small z (List.mem_of_getElem? hz)
      omega
    have big2 : ∀ (i : Nat) (z : List Pc), S2[i]? = some z → z.length ≤ 400 := fun i z hz => by
      have := D2.small z (List.mem_of_getElem? hz)
      omega
    -- those of the ground taken, moved
    refine ⟨_, rfl, q1, rfl, ⟨_, SqL.of SS1.1⟩, fun p1 hp1 => ?_⟩
    refine comp_list (K := K) (a := q1) (xs := as1.map V.ref) (fun i ys HB => Same H6 HB ∧ HB p1 = some (.lst ys) ∧ ∃ cs : List Addr, ys = cs.map V.ref ∧ cs.Nodup ∧ (∀ c ∈ cs, H6 c = none ∧ c ≠ p1) ∧ ShsAt HB cs ((S1.take i).map (farP pl)))
      ⟨same_new hp1, upd_same, [], rfl, .nil, by simp, .nil⟩ (fun i ys HB h => ⟨h.1.seq (SqL.of SS1.1), h.2.1⟩) ?_ ?_
    · rintro i x ys HB hi hx ⟨sm, hy, cs, rfl, hnd, hcs, hC⟩
      rw [List.getElem?_map] at hx
      obtain ⟨a1, ha1, rfl⟩ := Option.map_eq_some_iff.mp hx
      obtain ⟨z, hz, hz2⟩ := paired_get SS1.2 ha1
      have ly := Paired.length hC
      rw [List.length_map, List.length_take] at ly
      rw [List.length_map] at hi
      refine ⟨((Wk.refl _).set rfl), yes ?_⟩
      have bz := big1 i z hz
      refine ⟨_, rfl, _, rfl, a1, z, pl, rfl, hz2.mono sm, by omega, fun r HC sC hr hR => ?_⟩
      have hyC := sC _ _ hy
      have nr : r ≠ p1 := fun e => by rw [e, hy] at hr; cases hr
      have nin := shs_mem hC hr
      refine ⟨hyC, ?_, nx (by rw [List.length_map]; exact hi) ⟨(sm.trans sC).write hp1, upd_same, cs ++ [r], by simp, ?_, fun c hc => ?_, ?_⟩⟩
      · exact Nat.lt_of_le_of_lt (m := 1000) (by rw [List.length_map]; omega) (by decide)
      · exact List.nodup_append.mpr ⟨hnd, by simp, fun b hb c hc => by rw [List.mem_singleton.mp hc]; exact fun e => nin (e ▸ hb)⟩
      · rcases List.mem_append.mp hc with y | y
        · exact hcs c y
        · rw [List.mem_singleton.mp y]; exact ⟨sm.free hr, nr⟩
      · rw [take_snoc hz, List.map_append]
        exact Paired.snoc (ShsAt.write hyC (ShsAt.mono hC sC) fun c hc => (hcs c hc).2) (hR.write nr hyC)
    rintro ys HB ⟨sB, hy1, cs1, rfl, hnd1, hcs1, hC1⟩
    rw [List.length_map, ln1, List.take_length] at hC1
    have lC1 := Paired.length hC1
    rw [List.length_map] at lC1
    have SS2 := SS2.mono sB
    -- those of the rest
    refine ⟨_, rfl, q2, rfl, ⟨_, SqL.of SS2.1⟩, fun p3 hp3 => ?_⟩
    refine comp_list (K := K) (a := q2) (xs := as2.map V.ref) (fun i ys HC => Same HB HC ∧ HC p3 = some (.lst ys) ∧ ∃ cs : List Addr, ys = cs.map V.ref ∧ cs.Nodup ∧ (∀ c ∈ cs, HB c = none ∧ c ≠ p3) ∧ ShsAt HC cs ((S2.take i).map (partP pl (Bk.tot rs / 2))))
      ⟨same_new hp3, upd_same, [], rfl, .nil, by simp, .nil⟩ (fun i ys HC h => ⟨h.1.seq (SqL.of SS2.1), h.2.1⟩) ?_ ?_
    · rintro i x ys HC hi hx ⟨sm, hy, cs, rfl, hnd, hcs, hC⟩
      rw [List.getElem?_map] at hx
      obtain ⟨a1, ha1, rfl⟩ := Option.map_eq_some_iff.mp hx
      obtain ⟨z, hz, hz2⟩ := paired_get SS2.2 ha1
      have ly := Paired.length hC
      rw [List.length_map, List.length_take] at ly
      rw [List.length_map] at hi
      refine ⟨((Wk.refl _).set rfl), yes ?_⟩
      have bz := big2 i z hz
      have io := D2.ino (rest_good _ _ al hp).1 (rest_good _ _ al hp).2 (fun g => half_mod (hc g).2 (ev g)) z (List.mem_of_getElem? hz)
      refine ⟨_, rfl, _, rfl, _, rfl, a1, z, pl, pl + Bk.tot rs / 2, rfl, hz2.mono sm, by omega, fun r HD sD hr hR => ?_⟩
      rw [show pl + Bk.tot rs / 2 - pl = Bk.tot rs / 2 by omega, apart_eq io] at hR
      have hyD := sD _ _ hy
      have nr : r ≠ p3 := fun e => by rw [e, hy] at hr; cases hr
      have nin := shs_mem hC hr
      refine ⟨hyD, ?_, nx (by rw [List.length_map]; exact hi) ⟨(sm.trans sD).write hp3, upd_same, cs ++ [r], by simp, ?_, fun c hc => ?_, ?_⟩⟩
      · exact Nat.lt_of_le_of_lt (m := 1000) (by rw [List.length_map]; omega) (by decide)
      · exact List.nodup_append.mpr ⟨hnd, by simp, fun b hb c hc => by rw [List.mem_singleton.mp hc]; exact fun e => nin (e ▸ hb)⟩
      · rcases List.mem_append.mp hc with y | y
        · exact hcs c y
        · rw [List.mem_singleton.mp y]; exact ⟨sm.free hr, nr⟩
      · rw [take_snoc hz, List.map_append]
        exact Paired.snoc (ShsAt.write hyD (ShsAt.mono hC sD) fun c hc => (hcs c hc).2) (hR.write nr hyD)
    rintro ys HC ⟨sC, hy3, cs3, rfl, hnd3, hcs3, hC3⟩
    rw [List.length_map, ln2, List.take_length] at hC3
    have lC3 := Paired.length hC3
    rw [List.length_map] at lC3
    refine ⟨p1, p3, _, _, rfl, rfl, sC _ _ hy1, hy3, Nat.le_trans (m := 1000) (by rw [List.length_map, List.length_map]; omega) (by decide), fun p5 hp5 => ?_⟩
    have sn := same_new (o := .lst (cs1.map V.ref ++ cs3.map V.ref)) hp5
    have hC1' := ShsAt.mono hC1 sC
    have s8 := (s6'.trans sB).trans sC
    refine k p5 (cs1 ++ cs3) _ _ (s8.trans sn) (s8.free hp5) (fun b hb => ?_) ?_ (.more hH D1 D2) ⟨by rw [List.map_append]; exact upd_same, shs_append (ShsAt.mono hC1' sn) (ShsAt.mono hC3 sn)⟩
    · rcases List.mem_append.mp hb with y | y
      · exact s6'.free (hcs1 b y).1
      · exact (s6'.trans sB).free (hcs3 b y).1
    · refine List.nodup_cons.mpr ⟨fun hm => ?_, List.nodup_append.mpr ⟨hnd1, hnd3, fun b hb c hc e => ?_⟩⟩
      · rcases List.mem_append.mp hm with y | y
        · exact shs_mem hC1' hp5 y
        · exact shs_mem hC3 hp5 y
      · exact shs_mem hC1 (hcs3 c hc).1 (e ▸ hb)
theorem ok_dealt (V0 : Hv K mg aO f0 f1 f2 f3 f4 f5 f6 f7 f8 f9 f10 f11 f12 d0 d1 d2 d3 d4 d5 d6 d7 d8 d9 d10 d11 d12) (V1 : Dv K mg fH fR fM fA fD dH dR dM dA dD) : ∀ n : Nat, FnOk P w K mg base (CXE P w) (7 + n) fD dD ["bank", "heirs"] (spDealt K n)
  | 0 => ok_dealt0 V1.DD.fn V0
  | n + 1 => ok_dealtS V0 V1 (ok_dealt V0 V1 n)
/-! deal, of heirs that are some -/
structure He (K : PySem.W.Frag) (mg : Str → Option Value) (tH : Addr) : Prop where
  gl : mg "HEIRS" = some (.ref tH)
  tu : ∃ (o : Obj) (its : Array Value) (n : Nat), K.lookup tH = some o ∧ o.cls = .type "tuple" ∧ o.data = .seq its n ∧ its.size ≤ sizeLine ∧ Vals [.int 1, .int 2, .int 4, .int 8, .int 16] its.toList
def spDeal (K : PySem.W.Frag) : Sp := fun vs H Q _ => ∃ a xs rs n, vs = [.ref a, .int (2 ^ n)] ∧ SqL K H a xs ∧ RowsAt H xs rs ∧ (∀ r ∈ rs, 0 < r.2) ∧ Alt rs ∧ rs.length ≤ 300 ∧ n ≤ 4 ∧ (∀ g, Bk.sm g rs % 2 ^ n = 0) ∧
  ∀ p as S H', Same H H' → H p = none → (∀ b ∈ as, H b = none) → (p :: as).Nodup → Dealt n rs S → SsAt H' p as S → Q (.ref p) H'
theorem scDl : FnScope ["bank", "heirs", "uneven"] ["bank", "heirs"] (defScope sDeal) := ⟨rfl, rfl, rfl, by decide +kernel, rfl, by decide +kernel, by decide +kernel⟩
theorem pow_in : ∀ n : Nat, n ≤ 4 → inV (.int (2 ^ n)) [.int 1, .int 2, .int 4, .int 8, .int 16] = true := by
  intro n hn
  have : n = 0 ∨ n = 1 ∨ n = 2 ∨ n = 3 ∨ n = 4 := by omega
  rcases this with rfl | rfl | rfl | rfl | rfl <;> decide +kernel
theorem ok_deal {f tH : Addr} {fd : FuncData} {dV : Value} (F : FunG K "deal" "deal" sDeal f fd dV) (V0 : Hv K mg aO f0 f1 f2 f3 f4 f5 f6 f7 f8 f9 f10 f11 f12 d0 d1 d2 d3 d4 d5 d6 d7 d8 d9 d10 d11 d12) (V1 : Dv K mg fH fR fM fA fD dH dR dM dA dD) (VH : He K mg tH) :
    FnOk P w K mg base (CXE P w) 12 f fd ["bank", "heirs"] (spDeal K) := by
  have T := V0.T
  have GW : FnOk P w K mg base CX0 1 f1 d1 ["value"] spWhole := ok_whole V0.D1.fn T
  have GU : FnOk P w K mg base CX0 2 f7 d7 ["bank", "count"] (spUne K) := ok_une V0.D7.fn T V0.D5
  have GD : FnOk P w K mg base (CXE P w) 11 fD dD ["bank", "heirs"] (fun vs H Q E => ∃ n, n ≤ 4 ∧ spDealt K n vs H Q E) :=
    ⟨fun vs H Q E ⟨n, _, h⟩ => (ok_dealt (P := P) (w := w) (base := base) V0 V1 n).len vs H Q E h, fun A st s H c us vs Q E hr he hb hv ⟨n, hn, h⟩ => ((ok_dealt (P := P) (w := w) (base := base) V0 V1 n).mono (show 7 + n ≤ 11 by omega)).run A st s H c us vs Q E hr he hb hv h⟩
  refine F.okE scDl (fun vs H Q E h => ?_) (fun cdv A outer s H vs Q E hr h => ?_)
  · obtain ⟨_, _, _, _, rfl, _⟩ := h; rfl
  · obtain ⟨a, xs, rs, n, rfl, hS, hR, hp, al, hl, hn, ev, k⟩ := h
    refine ⟨_, pss_cons (ps_if (PW.pt (pw_or (pt_not (pt_val (pe_call GW (hr.mono (by decide)) rfl V0.D1.gl V0.D1.fn.kp V0.D1.bd .nil pass0 (pa_cons (pv 1) pa_nil)))) (pw_or1 (pt_cmpR op_notIn_seq (pv 1) (pe_glob (v := .ref tH) rfl VH.gl rfl) (by with_unfolding_all rfl))))) pss_never pss_nil)
      (pss_cons (ps_set (i := 2) scDl.nd rfl (Or.inl rfl) (pe_call GU (hr.mono (by decide)) rfl V0.D7.gl V0.D7.fn.kp V0.D7.bd .nil pass0 (pa_cons (pv 0) (pa_cons (pv 1) pa_nil))))
      (pss_cons (ps_if (pt_cmpR op_notN (pv 2) pe_non (nomark _)) pss_never pss_nil)
      (pss_one (ps_ret (pe_call GD hr rfl V1.DD.gl V1.DD.fn.kp V1.DD.bd .nil pass_on (pa_cons (pv 0) (pa_cons (pv 1) pa_nil))))))), ?_⟩
    refine ⟨_, rfl, _, rfl, true, rfl, iteF ?_⟩
    refine ⟨_, rfl, tH, _, rfl, .inr (.inr VH.tu), rfl, rfl, _, rfl, ?_⟩
    rw [if_pos rfl, pow_in n hn]
    refine iteF ?_
    refine ⟨_, rfl, _, rfl, a, xs, rs, 2 ^ n, rfl, Int.pow_pos (by decide), hS, hR, by omega, fun H1 s1 => ?_⟩
    have eU : uneV rs (2 ^ n) = .non := by unfold uneV; rw [if_pos (ev true), if_pos (ev false)]
    rw [eU]
    refine ⟨_, rfl, rfl, false, rfl, iteF ?_⟩
    refine ⟨_, rfl, _, rfl, n, hn, a, xs, rs, rfl, s1.seq hS, hR.mono s1.tps, hp, al, by omega, hn, ev, fun p as S H' s' hp0 has nd D SS => ?_⟩
    exact k p as S H' (s1.trans s') (s1.free hp0) (fun b hb => s1.free (has b hb)) nd D SS
end
end Q9

set_option Elab.async false
set_option linter.all false
set_option maxRecDepth 100000
set_option maxHeartbeats 4000000
namespace K9
open PySem L2
theorem _root_.L2.FunG.bindsN {K : PySem.W.Frag} {x qual : Str} {st : Stmt} {f : Addr} {fd : FuncData} {ps : List Str} {T : Addr} {oT : Obj} {items : List Value} {n m : Nat} {ds : List Value} (F : FunG K x qual st f fd (.ref T)) (hT : K.lookup T = some oT) (hd : oT.data = .seq items.toArray n) (hm : m + ds.length = ps.length)
    (h : ∀ (kV doc pm : Value) (an : Option Addr) (cdv ct : Value) (us : List Value), us.length = m → ∃ k : Option (Array Value) → Sem (List (Str × Value)),
      bindArgs (PySem.W.fnOf x qual (defArgs st) (defBody st) (defScope st) (.ref T) kV doc pm an cdv ct) ⟨us, []⟩ = seqItems? (.ref T) >>= k ∧ k (some items.toArray) = pure (ps.zip (us ++ ds))) : Binds K fd ps ds :=
  F.bindsD hT hd fun kV doc pm an cdv ct us hl => h kV doc pm an cdv ct us (by rw [List.length_append] at hl; omega)
theorem all_mk {l : PySem.W.OpenLaw} {w : World} {K : PySem.W.Frag} {h : Heap} {mg : Str → Option Value} {fa f0 f1 f2 f3 f4 f5 f6 f7 f8 f9 f10 T10 f11 f12 f13 f14 T14 f15 f16 f17 f18 T18 f19 f20 f21 f22 f23 f24 f25 f26 f27 aO tH : Addr} (X : K.In h) (G : h.Ns mainGlobals mg) (hfa : mg "law" = some (.ref fa))
    {od0 an0 od1 an1 od2 an2 od3 an3 od4 an4 od5 an5 od6 an6 od7 an7 od8 an8 od9 an9 od10 an10 odT10 od11 an11 od12 an12 od13 an13 od14 an14 odT14 od15 an15 od16 an16 od17 an17 od18 an18 odT18 od19 an19 od20 an20 od21 an21 od22 an22 od23 an23 od24 an24 od25 an25 od26 an26 od27 an27 : Option Addr} {sl0 sl1 sl2 sl3 sl4 sl5 sl6 sl7 sl8 sl9 sl10 slT10 sl11 sl12 sl13 sl14 slT14 sl15 sl16 sl17 sl18 slT18 sl19 sl20 sl21 sl22 sl23 sl24 sl25 sl26 sl27 : Array (Option Value)} {oc0 kV0 dc0 pm0 cd0 ct0 oc1 kV1 dc1 pm1 cd1 ct1 oc2 kV2 dc2 pm2 cd2 ct2 oc3 kV3 dc3 pm3 cd3 ct3 oc4 kV4 dc4 pm4 cd4 ct4 oc5 kV5 dc5 pm5 cd5 ct5 oc6 kV6 dc6 pm6 cd6 ct6 oc7 kV7 dc7 pm7 cd7 ct7 oc8 kV8 dc8 pm8 cd8 ct8 oc9 kV9 dc9 pm9 cd9 ct9 oc10 kV10 dc10 pm10 cd10 ct10 ocT10 oc11 kV11 dc11 pm11 cd11 ct11 oc12 kV12 dc12 pm12 cd12 ct12 oc13 kV13 dc13 pm13 cd13 ct13 oc14 kV14 dc14 pm14 cd14 ct14 ocT14 oc15 kV15 dc15 pm15 cd15 ct15 oc16 kV16 dc16 pm16 cd16 ct16 oc17 kV17 dc17 pm17 cd17 ct17 oc18 kV18 dc18 pm18 cd18 ct18 ocT18 oc19 kV19 dc19 pm19 cd19 ct19 oc20 kV20 dc20 pm20 cd20 ct20 oc21 kV21 dc21 pm21 cd21 ct21 oc22 kV22 dc22 pm22 cd22 ct22 oc23 kV23 dc23 pm23 cd23 ct23 oc24 kV24 dc24 pm24 cd24 ct24 oc25 kV25 dc25 pm25 cd25 ct25 oc26 kV26 dc26 pm26 cd26 ct26 oc27 kV27 dc27 pm27 cd27 ct27 : Value} {td tw u10 u14 u18 : Tok} {n10 n14 n18 : Nat} {odH : Option Addr} {v1 v2 v3 v4 v5 : Tok} {nH : Nat} {slH : Array (Option Value)}
    (ha0 : PySem.W.nsIn K mainGlobals "is_ground" = some (some (.ref f0)))
    (hl0 : K.lookup f0 = some ⟨oc0, od0, .func (PySem.W.fnOf "is_ground" "is_ground" (defArgs Q9.sGround) (defBody Q9.sGround) (defScope Q9.sGround) .none kV0 dc0 pm0 an0 cd0 ct0), sl0⟩)
    (hc0 : PySem.W.codeIn K cd0 "is_ground" = true)
    (hk0 : PySem.W.keepIn K (.ref f0) = true)
    (ha1 : PySem.W.nsIn K mainGlobals "is_whole" = some (some (.ref f1)))
    (hl1 : K.lookup f1 = some ⟨oc1, od1, .func (PySem.W.fnOf "is_whole" "is_whole" (defArgs Q9.sWhole) (defBody Q9.sWhole) (defScope Q9.sWhole) .none kV1 dc1 pm1 an1 cd1 ct1), sl1⟩)
    (hc1 : PySem.W.codeIn K cd1 "is_whole" = true)
    (hk1 : PySem.W.keepIn K (.ref f1) = true)
    (ha2 : PySem.W.nsIn K mainGlobals "refuse_wrong_row" = some (some (.ref f2)))
    (hl2 : K.lookup f2 = some ⟨oc2, od2, .func (PySem.W.fnOf "refuse_wrong_row" "refuse_wrong_row" (defArgs Q9.sRefuse) (defBody Q9.sRefuse) (defScope Q9.sRefuse) .none kV2 dc2 pm2 an2 cd2 ct2), sl2⟩)
    (hc2 : PySem.W.codeIn K cd2 "refuse_wrong_row" = true)
    (hk2 : PySem.W.keepIn K (.ref f2) = true)
    (ha3 : PySem.W.nsIn K mainGlobals "tidy" = some (some (.ref f3)))
    (hl3 : K.lookup f3 = some ⟨oc3, od3, .func (PySem.W.fnOf "tidy" "tidy" (defArgs Q9.sTidy) (defBody Q9.sTidy) (defScope Q9.sTidy) .none kV3 dc3 pm3 an3 cd3 ct3), sl3⟩)
    (hc3 : PySem.W.codeIn K cd3 "tidy" = true)
    (hk3 : PySem.W.keepIn K (.ref f3) = true)
    (ha4 : PySem.W.nsIn K mainGlobals "length" = some (some (.ref f4)))
    (hl4 : K.lookup f4 = some ⟨oc4, od4, .func (PySem.W.fnOf "length" "length" (defArgs Q9.sLen) (defBody Q9.sLen) (defScope Q9.sLen) .none kV4 dc4 pm4 an4 cd4 ct4), sl4⟩)
    (hc4 : PySem.W.codeIn K cd4 "length" = true)
    (hk4 : PySem.W.keepIn K (.ref f4) = true)
    (ha5 : PySem.W.nsIn K mainGlobals "sum_of" = some (some (.ref f5)))
    (hl5 : K.lookup f5 = some ⟨oc5, od5, .func (PySem.W.fnOf "sum_of" "sum_of" (defArgs Q9.sSum) (defBody Q9.sSum) (defScope Q9.sSum) .none kV5 dc5 pm5 an5 cd5 ct5), sl5⟩)
    (hc5 : PySem.W.codeIn K cd5 "sum_of" = true)
    (hk5 : PySem.W.keepIn K (.ref f5) = true)
    (ha6 : PySem.W.nsIn K mainGlobals "ground_of" = some (some (.ref f6)))
    (hl6 : K.lookup f6 = some ⟨oc6, od6, .func (PySem.W.fnOf "ground_of" "ground_of" (defArgs Q9.sGof) (defBody Q9.sGof) (defScope Q9.sGof) .none kV6 dc6 pm6 an6 cd6 ct6), sl6⟩)
    (hc6 : PySem.W.codeIn K cd6 "ground_of" = true)
    (hk6 : PySem.W.keepIn K (.ref f6) = true)
    (ha7 : PySem.W.nsIn K mainGlobals "uneven_ground" = some (some (.ref f7)))
    (hl7 : K.lookup f7 = some ⟨oc7, od7, .func (PySem.W.fnOf "uneven_ground" "uneven_ground" (defArgs Q9.sUne) (defBody Q9.sUne) (defScope Q9.sUne) .none kV7 dc7 pm7 an7 cd7 ct7), sl7⟩)
    (hc7 : PySem.W.codeIn K cd7 "uneven_ground" = true)
    (hk7 : PySem.W.keepIn K (.ref f7) = true)
    (ha8 : PySem.W.nsIn K mainGlobals "checked_end" = some (some (.ref f8)))
    (hl8 : K.lookup f8 = some ⟨oc8, od8, .func (PySem.W.fnOf "checked_end" "checked_end" (defArgs Q9.sCheck) (defBody Q9.sCheck) (defScope Q9.sCheck) .none kV8 dc8 pm8 an8 cd8 ct8), sl8⟩)
    (hc8 : PySem.W.codeIn K cd8 "checked_end" = true)
    (hk8 : PySem.W.keepIn K (.ref f8) = true)
    (ha9 : PySem.W.nsIn K mainGlobals "part" = some (some (.ref f9)))
    (hl9 : K.lookup f9 = some ⟨oc9, od9, .func (PySem.W.fnOf "part" "part" (defArgs Q9.sPart) (defBody Q9.sPart) (defScope Q9.sPart) .none kV9 dc9 pm9 an9 cd9 ct9), sl9⟩)
    (hc9 : PySem.W.codeIn K cd9 "part" = true)
    (hk9 : PySem.W.keepIn K (.ref f9) = true)
    (ha10 : PySem.W.nsIn K mainGlobals "cut_out" = some (some (.ref f10)))
    (hl10 : K.lookup f10 = some ⟨oc10, od10, .func (PySem.W.fnOf "cut_out" "cut_out" (defArgs Q9.sCut) (defBody Q9.sCut) (defScope Q9.sCut) (.ref T10) kV10 dc10 pm10 an10 cd10 ct10), sl10⟩)
    (hc10 : PySem.W.codeIn K cd10 "cut_out" = true)
    (hk10 : PySem.W.keepIn K (.ref f10) = true)
    (ht10 : K.lookup T10 = some ⟨ocT10, odT10, .seq ([.int 0 u10, .none] : List Value).toArray n10, slT10⟩)
    (ha11 : PySem.W.nsIn K mainGlobals "side_by_side" = some (some (.ref f11)))
    (hl11 : K.lookup f11 = some ⟨oc11, od11, .func (PySem.W.fnOf "side_by_side" "side_by_side" (defArgs Q9.sSbs) (defBody Q9.sSbs) (defScope Q9.sSbs) .none kV11 dc11 pm11 an11 cd11 ct11), sl11⟩)
    (hc11 : PySem.W.codeIn K cd11 "side_by_side" = true)
    (hk11 : PySem.W.keepIn K (.ref f11) = true)
    (ha12 : PySem.W.nsIn K mainGlobals "dry_gain" = some (some (.ref f12)))
    (hl12 : K.lookup f12 = some ⟨oc12, od12, .func (PySem.W.fnOf "dry_gain" "dry_gain" (defArgs Q9.sGain) (defBody Q9.sGain) (defScope Q9.sGain) .none kV12 dc12 pm12 an12 cd12 ct12), sl12⟩)
    (hc12 : PySem.W.codeIn K cd12 "dry_gain" = true)
    (hk12 : PySem.W.keepIn K (.ref f12) = true)
    (ha13 : PySem.W.nsIn K mainGlobals "half_place" = some (some (.ref f13)))
    (hl13 : K.lookup f13 = some ⟨oc13, od13, .func (PySem.W.fnOf "half_place" "half_place" (defArgs Q9.sHalf) (defBody Q9.sHalf) (defScope Q9.sHalf) .none kV13 dc13 pm13 an13 cd13 ct13), sl13⟩)
    (hc13 : PySem.W.codeIn K cd13 "half_place" = true)
    (hk13 : PySem.W.keepIn K (.ref f13) = true)
    (ha14 : PySem.W.nsIn K mainGlobals "rest" = some (some (.ref f14)))
    (hl14 : K.lookup f14 = some ⟨oc14, od14, .func (PySem.W.fnOf "rest" "rest" (defArgs Q9.sRest) (defBody Q9.sRest) (defScope Q9.sRest) (.ref T14) kV14 dc14 pm14 an14 cd14 ct14), sl14⟩)
    (hc14 : PySem.W.codeIn K cd14 "rest" = true)
    (hk14 : PySem.W.keepIn K (.ref f14) = true)
    (ht14 : K.lookup T14 = some ⟨ocT14, odT14, .seq ([.int 0 u14, .none] : List Value).toArray n14, slT14⟩)
    (ha15 : PySem.W.nsIn K mainGlobals "moved" = some (some (.ref f15)))
    (hl15 : K.lookup f15 = some ⟨oc15, od15, .func (PySem.W.fnOf "moved" "moved" (defArgs Q9.sMov) (defBody Q9.sMov) (defScope Q9.sMov) .none kV15 dc15 pm15 an15 cd15 ct15), sl15⟩)
    (hc15 : PySem.W.codeIn K cd15 "moved" = true)
    (hk15 : PySem.W.keepIn K (.ref f15) = true)
    (ha16 : PySem.W.nsIn K mainGlobals "moved_apart" = some (some (.ref f16)))
    (hl16 : K.lookup f16 = some ⟨oc16, od16, .func (PySem.W.fnOf "moved_apart" "moved_apart" (defArgs Q9.sApart) (defBody Q9.sApart) (defScope Q9.sApart) .none kV16 dc16 pm16 an16 cd16 ct16), sl16⟩)
    (hc16 : PySem.W.codeIn K cd16 "moved_apart" = true)
    (hk16 : PySem.W.keepIn K (.ref f16) = true)
    (ha17 : PySem.W.nsIn K mainGlobals "dealt" = some (some (.ref f17)))
    (hl17 : K.lookup f17 = some ⟨oc17, od17, .func (PySem.W.fnOf "dealt" "dealt" (defArgs Q9.sDealt) (defBody Q9.sDealt) (defScope Q9.sDealt) .none kV17 dc17 pm17 an17 cd17 ct17), sl17⟩)
    (hc17 : PySem.W.codeIn K cd17 "dealt" = true)
    (hk17 : PySem.W.keepIn K (.ref f17) = true)
    (ha18 : PySem.W.nsIn K mainGlobals "deal" = some (some (.ref f18)))
    (hl18 : K.lookup f18 = some ⟨oc18, od18, .func (PySem.W.fnOf "deal" "deal" (defArgs Q9.sDeal) (defBody Q9.sDeal) (defScope Q9.sDeal) (.ref T18) kV18 dc18 pm18 an18 cd18 ct18), sl18⟩)
    (hc18 : PySem.W.codeIn K cd18 "deal" = true)
    (hk18 : PySem.W.keepIn K (.ref f18) = true)
    (ht18 : K.lookup T18 = some ⟨ocT18, odT18, .seq ([.int 2 u18] : List Value).toArray n18, slT18⟩)
    (ha19 : PySem.W.nsIn K mainGlobals "_law_cell_at" = some (some (.ref f19)))
    (hl19 : K.lookup f19 = some ⟨oc19, od19, .func (PySem.W.fnOf "_law_cell_at" "_law_cell_at" (defArgs sCell) (defBody sCell) (defScope sCell) .none kV19 dc19 pm19 an19 cd19 ct19), sl19⟩)
    (hc19 : PySem.W.codeIn K cd19 "_law_cell_at" = true)
    (hk19 : PySem.W.keepIn K (.ref f19) = true)
    (ha20 : PySem.W.nsIn K mainGlobals "_law_whole" = some (some (.ref f20)))
    (hl20 : K.lookup f20 = some ⟨oc20, od20, .func (PySem.W.fnOf "_law_whole" "_law_whole" (defArgs sLWh) (defBody sLWh) (defScope sLWh) .none kV20 dc20 pm20 an20 cd20 ct20), sl20⟩)
    (hc20 : PySem.W.codeIn K cd20 "_law_whole" = true)
    (hk20 : PySem.W.keepIn K (.ref f20) = true)
    (ha21 : PySem.W.nsIn K mainGlobals "_law_long" = some (some (.ref f21)))
    (hl21 : K.lookup f21 = some ⟨oc21, od21, .func (PySem.W.fnOf "_law_long" "_law_long" (defArgs sLong) (defBody sLong) (defScope sLong) .none kV21 dc21 pm21 an21 cd21 ct21), sl21⟩)
    (hc21 : PySem.W.codeIn K cd21 "_law_long" = true)
    (hk21 : PySem.W.keepIn K (.ref f21) = true)
    (ha22 : PySem.W.nsIn K mainGlobals "_law_bank" = some (some (.ref f22)))
    (hl22 : K.lookup f22 = some ⟨oc22, od22, .func (PySem.W.fnOf "_law_bank" "_law_bank" (defArgs sLBank) (defBody sLBank) (defScope sLBank) .none kV22 dc22 pm22 an22 cd22 ct22), sl22⟩)
    (hc22 : PySem.W.codeIn K cd22 "_law_bank" = true)
    (hk22 : PySem.W.keepIn K (.ref f22) = true)
    (ha23 : PySem.W.nsIn K mainGlobals "_law_evened" = some (some (.ref f23)))
    (hl23 : K.lookup f23 = some ⟨oc23, od23, .func (PySem.W.fnOf "_law_evened" "_law_evened" (defArgs sEven) (defBody sEven) (defScope sEven) .none kV23 dc23 pm23 an23 cd23 ct23), sl23⟩)
    (hc23 : PySem.W.codeIn K cd23 "_law_evened" = true)
    (hk23 : PySem.W.keepIn K (.ref f23) = true)
    (ha24 : PySem.W.nsIn K mainGlobals "_law_shares" = some (some (.ref f24)))
    (hl24 : K.lookup f24 = some ⟨oc24, od24, .func (PySem.W.fnOf "_law_shares" "_law_shares" (defArgs sShares) (defBody sShares) (defScope sShares) .none kV24 dc24 pm24 an24 cd24 ct24), sl24⟩)
    (hc24 : PySem.W.codeIn K cd24 "_law_shares" = true)
    (hk24 : PySem.W.keepIn K (.ref f24) = true)
    (ha25 : PySem.W.nsIn K mainGlobals "_law_farther" = some (some (.ref f25)))
    (hl25 : K.lookup f25 = some ⟨oc25, od25, .func (PySem.W.fnOf "_law_farther" "_law_farther" (defArgs sFar) (defBody sFar) (defScope sFar) .none kV25 dc25 pm25 an25 cd25 ct25), sl25⟩)
    (hc25 : PySem.W.codeIn K cd25 "_law_farther" = true)
    (hk25 : PySem.W.keepIn K (.ref f25) = true)
    (ha26 : PySem.W.nsIn K mainGlobals "_law_parted" = some (some (.ref f26)))
    (hl26 : K.lookup f26 = some ⟨oc26, od26, .func (PySem.W.fnOf "_law_parted" "_law_parted" (defArgs sPart) (defBody sPart) (defScope sPart) .none kV26 dc26 pm26 an26 cd26 ct26), sl26⟩)
    (hc26 : PySem.W.codeIn K cd26 "_law_parted" = true)
    (hk26 : PySem.W.keepIn K (.ref f26) = true)
    (ha27 : PySem.W.nsIn K mainGlobals "law" = some (some (.ref f27)))
    (hl27 : K.lookup f27 = some ⟨oc27, od27, .func (PySem.W.fnOf "law" "law" (defArgs sLaw) (defBody sLaw) (defScope sLaw) .none kV27 dc27 pm27 an27 cd27 ct27), sl27⟩)
    (hc27 : PySem.W.codeIn K cd27 "law" = true)
    (hk27 : PySem.W.keepIn K (.ref f27) = true)
    (hz_isinstance : PySem.W.nsIn K mainGlobals "isinstance" = some none)
    (hz_str : PySem.W.nsIn K mainGlobals "str" = some none)
    (hz_int : PySem.W.nsIn K mainGlobals "int" = some none)
    (hz_bool : PySem.W.nsIn K mainGlobals "bool" = some none)
    (hz_list : PySem.W.nsIn K mainGlobals "list" = some none)
    (hz_tuple : PySem.W.nsIn K mainGlobals "tuple" = some none)
    (hz_len : PySem.W.nsIn K mainGlobals "len" = some none)
    (hz_sum : PySem.W.nsIn K mainGlobals "sum" = some none)
    (hz_max : PySem.W.nsIn K mainGlobals "max" = some none)
    (hz_min : PySem.W.nsIn K mainGlobals "min" = some none)
    (hz_range : PySem.W.nsIn K mainGlobals "range" = some none)
    (hz_enumerate : PySem.W.nsIn K mainGlobals "enumerate" = some none)
    (hz_ValueError : PySem.W.nsIn K mainGlobals "ValueError" = some none)
    (hz_reversed : PySem.W.nsIn K mainGlobals "reversed" = some none)
    (hz_abs : PySem.W.nsIn K mainGlobals "abs" = some none)
    (hdry : PySem.W.nsIn K mainGlobals "DRY" = some (some (.str "dry" td)))
    (hwet : PySem.W.nsIn K mainGlobals "WET" = some (some (.str "wet" tw)))
    (hgO : PySem.W.nsIn K mainGlobals "OffBank" = some (some (.ref aO)))
    (hexO : PySem.W.excIn K aO [.type "ValueError", .type "Exception", .type "BaseException", .type "object"] "ValueError.__new__" = true)
    (hgH : PySem.W.nsIn K mainGlobals "HEIRS" = some (some (.ref tH)))
    (htH : K.lookup tH = some ⟨.type "tuple", odH, .seq ([.int 1 v1, .int 2 v2, .int 4 v3, .int 8 v4, .int 16 v5] : List Value).toArray nH, slH⟩)
    : ∃ fd : FuncData, (∀ (s : Shared) (v : Value), BindsTo s fd ⟨[v], []⟩ [("_law_script", v)]) ∧ ∀ base : Heap, K.In base → base.Ns mainGlobals mg → FnOk l.prog w K mg base CX0 13 fa fd ["_law_script"] (spLaw K) := by
  have e := hfa.symm.trans (PySem.W.mg_of X G ha27)
  cases e
  have T : Q9.Py mg := ⟨PySem.W.mg_none_of X G hz_isinstance, PySem.W.mg_none_of X G hz_str, PySem.W.mg_none_of X G hz_int, PySem.W.mg_none_of X G hz_bool, PySem.W.mg_none_of X G hz_list, PySem.W.mg_none_of X G hz_tuple, PySem.W.mg_none_of X G hz_len, PySem.W.mg_none_of X G hz_sum, PySem.W.mg_none_of X G hz_max, PySem.W.mg_none_of X G hz_min, PySem.W.mg_none_of X G hz_range, PySem.W.mg_none_of X G hz_enumerate, PySem.W.mg_none_of X G hz_ValueError, PySem.W.mg_none_of X G hz_reversed, PySem.W.mg_none_of X G hz_abs, ⟨_, PySem.W.mg_of X G hdry⟩, ⟨_, PySem.W.mg_of X G hwet⟩⟩
  have TL : Pl mg := ⟨PySem.W.mg_none_of X G hz_isinstance, PySem.W.mg_none_of X G hz_int, PySem.W.mg_none_of X G hz_bool, PySem.W.mg_none_of X G hz_list, PySem.W.mg_none_of X G hz_tuple, PySem.W.mg_none_of X G hz_len, PySem.W.mg_none_of X G hz_sum, PySem.W.mg_none_of X G hz_max, PySem.W.mg_none_of X G hz_min, PySem.W.mg_none_of X G hz_range⟩
  have F0 := fung_mk (st := Q9.sGround) hl0 hc0 hk0
  have D0 : Df K mg "is_ground" Q9.sGround ["value"] f0 _ := ⟨F0, PySem.W.mg_of X G ha0, F0.binds (ps := ["value"]) fun _ _ _ _ _ _ us hl => match us, hl with | [_], _ => rfl⟩
  have F1 := fung_mk (st := Q9.sWhole) hl1 hc1 hk1
  have D1 : Df K mg "is_whole" Q9.sWhole ["value"] f1 _ := ⟨F1, PySem.W.mg_of X G ha1, F1.binds (ps := ["value"]) fun _ _ _ _ _ _ us hl => match us, hl with | [_], _ => rfl⟩
  have F2 := fung_mk (st := Q9.sRefuse) hl2 hc2 hk2
  have D2 : Df K mg "refuse_wrong_row" Q9.sRefuse ["row", "place"] f2 _ := ⟨F2, PySem.W.mg_of X G ha2, F2.binds (ps := ["row", "place"]) fun _ _ _ _ _ _ us hl => match us, hl with | [_, _], _ => rfl⟩
  have F3 := fung_mk (st := Q9.sTidy) hl3 hc3 hk3
  have D3 : Df K mg "tidy" Q9.sTidy ["rows"] f3 _ := ⟨F3, PySem.W.mg_of X G ha3, F3.binds (ps := ["rows"]) fun _ _ _ _ _ _ us hl => match us, hl with | [_], _ => rfl⟩
  have F4 := fung_mk (st := Q9.sLen) hl4 hc4 hk4
  have D4 : Df K mg "length" Q9.sLen ["bank"] f4 _ := ⟨F4, PySem.W.mg_of X G ha4, F4.binds (ps := ["bank"]) fun _ _ _ _ _ _ us hl => match us, hl with | [_], _ => rfl⟩
  have F5 := fung_mk (st := Q9.sSum) hl5 hc5 hk5
  have D5 : Df K mg "sum_of" Q9.sSum ["bank", "ground"] f5 _ := ⟨F5, PySem.W.mg_of X G ha5, F5.binds (ps := ["bank", "ground"]) fun _ _ _ _ _ _ us hl => match us, hl with | [_, _], _ => rfl⟩
  have F6 := fung_mk (st := Q9.sGof) hl6 hc6 hk6
  have D6 : Df K mg "ground_of" Q9.sGof ["bank"] f6 _ := ⟨F6, PySem.W.mg_of X G ha6, F6.binds (ps := ["bank"]) fun _ _ _ _ _ _ us hl => match us, hl with | [_], _ => rfl⟩
  have F7 := fung_mk (st := Q9.sUne) hl7 hc7 hk7
  have D7 : Df K mg "uneven_ground" Q9.sUne ["bank", "count"] f7 _ := ⟨F7, PySem.W.mg_of X G ha7, F7.binds (ps := ["bank", "count"]) fun _ _ _ _ _ _ us hl => match us, hl with | [_, _], _ => rfl⟩
  have F8 := fung_mk (st := Q9.sCheck) hl8 hc8 hk8
  have D8 : Df K mg "checked_end" Q9.sCheck ["bank", "start", "end"] f8 _ := ⟨F8, PySem.W.mg_of X G ha8, F8.binds (ps := ["bank", "start", "end"]) fun _ _ _ _ _ _ us hl => match us, hl with | [_, _, _], _ => rfl⟩
  have F9 := fung_mk (st := Q9.sPart) hl9 hc9 hk9
  have D9 : Df K mg "part" Q9.sPart ["bank", "start", "end"] f9 _ := ⟨F9, PySem.W.mg_of X G ha9, F9.binds (ps := ["bank", "start", "end"]) fun _ _ _ _ _ _ us hl => match us, hl with | [_, _, _], _ => rfl⟩
  have F10 := fung_mk (st := Q9.sCut) hl10 hc10 hk10
  have D10 : Q9.DfD K mg "cut_out" Q9.sCut f10 _ := ⟨⟨_, F10⟩, PySem.W.mg_of X G ha10, hk10,
    F10.bindsN (m := 3) (ds := []) ht10 rfl rfl fun _ _ _ _ _ _ us hl => match us, hl with | [_, _, _], _ => ⟨_, rfl, rfl⟩,
    F10.bindsN (m := 2) (ds := [.none]) ht10 rfl rfl fun _ _ _ _ _ _ us hl => match us, hl with | [_, _], _ => ⟨_, rfl, rfl⟩,
    u10, F10.bindsN (m := 1) (ds := [.int 0 u10, .none]) ht10 rfl rfl fun _ _ _ _ _ _ us hl => match us, hl with | [_], _ => ⟨_, rfl, rfl⟩⟩
  have F11 := fung_mk (st := Q9.sSbs) hl11 hc11 hk11
  have D11 : Df K mg "side_by_side" Q9.sSbs ["rows", "others"] f11 _ := ⟨F11, PySem.W.mg_of X G ha11, F11.binds (ps := ["rows", "others"]) fun _ _ _ _ _ _ us hl => match us, hl with | [_, _], _ => rfl⟩
  have F12 := fung_mk (st := Q9.sGain) hl12 hc12 hk12
  have D12 : Df K mg "dry_gain" Q9.sGain ["lost", "won"] f12 _ := ⟨F12, PySem.W.mg_of X G ha12, F12.binds (ps := ["lost", "won"]) fun _ _ _ _ _ _ us hl => match us, hl with | [_, _], _ => rfl⟩
  have F13 := fung_mk (st := Q9.sHalf) hl13 hc13 hk13
  have D13 : Df K mg "half_place" Q9.sHalf ["bank"] f13 _ := ⟨F13, PySem.W.mg_of X G ha13, F13.binds (ps := ["bank"]) fun _ _ _ _ _ _ us hl => match us, hl with | [_], _ => rfl⟩
  have F14 := fung_mk (st := Q9.sRest) hl14 hc14 hk14
  have D14 : Q9.DfD K mg "rest" Q9.sRest f14 _ := ⟨⟨_, F14⟩, PySem.W.mg_of X G ha14, hk14,
    F14.bindsN (m := 3) (ds := []) ht14 rfl rfl fun _ _ _ _ _ _ us hl => match us, hl with | [_, _, _], _ => ⟨_, rfl, rfl⟩,
    F14.bindsN (m := 2) (ds := [.none]) ht14 rfl rfl fun _ _ _ _ _ _ us hl => match us, hl with | [_, _], _ => ⟨_, rfl, rfl⟩,
    u14, F14.bindsN (m := 1) (ds := [.int 0 u14, .none]) ht14 rfl rfl fun _ _ _ _ _ _ us hl => match us, hl with | [_], _ => ⟨_, rfl, rfl⟩⟩
  have F15 := fung_mk (st := Q9.sMov) hl15 hc15 hk15
  have D15 : Df K mg "moved" Q9.sMov ["share", "far"] f15 _ := ⟨F15, PySem.W.mg_of X G ha15, F15.binds (ps := ["share", "far"]) fun _ _ _ _ _ _ us hl => match us, hl with | [_, _], _ => rfl⟩
  have F16 := fung_mk (st := Q9.sApart) hl16 hc16 hk16
  have D16 : Df K mg "moved_apart" Q9.sApart ["share", "start", "end"] f16 _ := ⟨F16, PySem.W.mg_of X G ha16, F16.binds (ps := ["share", "start", "end"]) fun _ _ _ _ _ _ us hl => match us, hl with | [_, _, _], _ => rfl⟩
  have F17 := fung_mk (st := Q9.sDealt) hl17 hc17 hk17
  have D17 : Df K mg "dealt" Q9.sDealt ["bank", "heirs"] f17 _ := ⟨F17, PySem.W.mg_of X G ha17, F17.binds (ps := ["bank", "heirs"]) fun _ _ _ _ _ _ us hl => match us, hl with | [_, _], _ => rfl⟩
  have F18 := fung_mk (st := Q9.sDeal) hl18 hc18 hk18
  have bD : Binds K _ ["bank", "heirs"] [] := F18.bindsN (m := 2) (ds := []) ht18 rfl rfl fun _ _ _ _ _ _ us hl => match us, hl with | [_, _], _ => ⟨_, rfl, rfl⟩
  have bD1 : Binds K _ ["bank", "heirs"] [.int 2 u18] := F18.bindsN (m := 1) (ds := [.int 2 u18]) ht18 rfl rfl fun _ _ _ _ _ _ us hl => match us, hl with | [_], _ => ⟨_, rfl, rfl⟩
  have F19 := fung_mk (st := sCell) hl19 hc19 hk19
  have D19 : Df K mg "_law_cell_at" sCell ["_law_script", "_law_k"] f19 _ := ⟨F19, PySem.W.mg_of X G ha19, F19.binds (ps := ["_law_script", "_law_k"]) fun _ _ _ _ _ _ us hl => match us, hl with | [_, _], _ => rfl⟩
  have F20 := fung_mk (st := sLWh) hl20 hc20 hk20
  have D20 : Df K mg "_law_whole" sLWh ["_law_found"] f20 _ := ⟨F20, PySem.W.mg_of X G ha20, F20.binds (ps := ["_law_found"]) fun _ _ _ _ _ _ us hl => match us, hl with | [_], _ => rfl⟩
  have F21 := fung_mk (st := sLong) hl21 hc21 hk21
  have D21 : Df K mg "_law_long" sLong ["_law_cell"] f21 _ := ⟨F21, PySem.W.mg_of X G ha21, F21.binds (ps := ["_law_cell"]) fun _ _ _ _ _ _ us hl => match us, hl with | [_], _ => rfl⟩
  have F22 := fung_mk (st := sLBank) hl22 hc22 hk22
  have D22 : Df K mg "_law_bank" sLBank ["_law_script"] f22 _ := ⟨F22, PySem.W.mg_of X G ha22, F22.binds (ps := ["_law_script"]) fun _ _ _ _ _ _ us hl => match us, hl with | [_], _ => rfl⟩
  have F23 := fung_mk (st := sEven) hl23 hc23 hk23
  have D23 : Df K mg "_law_evened" sEven ["_law_rows", "_law_heirs", "_law_cell"] f23 _ := ⟨F23, PySem.W.mg_of X G ha23, F23.binds (ps := ["_law_rows", "_law_heirs", "_law_cell"]) fun _ _ _ _ _ _ us hl => match us, hl with | [_, _, _], _ => rfl⟩
  have F24 := fung_mk (st := sShares) hl24 hc24 hk24
  have D24 : Df K mg "_law_shares" sShares ["_law_found", "_law_many"] f24 _ := ⟨F24, PySem.W.mg_of X G ha24, F24.binds (ps := ["_law_found", "_law_many"]) fun _ _ _ _ _ _ us hl => match us, hl with | [_, _], _ => rfl⟩
  have F25 := fung_mk (st := sFar) hl25 hc25 hk25
  have D25 : Df K mg "_law_farther" sFar ["_law_share", "_law_far"] f25 _ := ⟨F25, PySem.W.mg_of X G ha25, F25.binds (ps := ["_law_share", "_law_far"]) fun _ _ _ _ _ _ us hl => match us, hl with | [_, _], _ => rfl⟩
  have F26 := fung_mk (st := sPart) hl26 hc26 hk26
  have D26 : Df K mg "_law_parted" sPart ["_law_share", "_law_at", "_law_far"] f26 _ := ⟨F26, PySem.W.mg_of X G ha26, F26.binds (ps := ["_law_share", "_law_at", "_law_far"]) fun _ _ _ _ _ _ us hl => match us, hl with | [_, _, _], _ => rfl⟩
  have F27 := fung_mk (st := sLaw) hl27 hc27 hk27
  have V0 : Q9.Hv K mg aO _ _ _ _ _ _ _ _ _ _ _ _ _ _ _ _ _ _ _ _ _ _ _ _ _ _ := ⟨T, ⟨PySem.W.mg_of X G hgO, hexO⟩, D0, D1, D2, D3, D4, D5, D6, D7, D8, D9, D10, D11, D12⟩
  have V1 : Q9.Dv K mg _ _ _ _ _ _ _ _ _ _ := ⟨D13, D14, D15, D16, D17⟩
  have VH : Q9.He K mg tH := ⟨PySem.W.mg_of X G hgH, _, _, _, htH, rfl, rfl, by show 5 ≤ sizeLine; decide, .cons ⟨_, rfl⟩ (.cons ⟨_, rfl⟩ (.cons ⟨_, rfl⟩ (.cons ⟨_, rfl⟩ (.cons ⟨_, rfl⟩ .nil))))⟩
  refine ⟨PySem.W.fnOf "law" "law" (defArgs sLaw) (defBody sLaw) (defScope sLaw) .none kV27 dc27 pm27 an27 cd27 ct27, fun s v => .of_eq rfl, fun base _ _ => ?_⟩
  obtain ⟨dVC, FC⟩ := D10.fn
  obtain ⟨dVR, FR⟩ := D14.fn
  have GH0 := (Q9.ok_half (P := l.prog) (w := w) (base := base) F13 V0).mono (show 6 ≤ 12 by decide)
  have GH : FnOk l.prog w K mg base (CXE l.prog w) 12 f13 _ ["bank"] (spHalf K) := GH0.imp fun vs H Q E ⟨a, xs, rs, h1, h2, h3, h4, h5, h6, h7, h8⟩ => ⟨a, xs, rs, h1, h2, h3, h4, h5, Nat.le_trans h6 (by decide), h7, h8⟩
  have GD0 := Q9.ok_deal (P := l.prog) (w := w) (base := base) F18 V0 V1 VH
  have GD : FnOk l.prog w K mg base (CXE l.prog w) 12 f18 _ ["bank", "heirs"] (spDeal K) := GD0.imp fun vs H Q E ⟨a, xs, rs, n, h1, h2, h3, h4, h5, h6, h7⟩ => ⟨a, xs, rs, n, h1, h2, h3, h4, h5, Nat.le_trans h6 (by decide), h7⟩
  have GC0 := (Q9.ok_cut (P := l.prog) (w := w) (base := base) FC T V0.O D0 D1 D2 D3 D9 D4 D8).mono (show 5 ≤ 12 by decide)
  have GC : FnOk l.prog w K mg base (CXE l.prog w) 12 f10 _ ["bank", "start", "end"] (spCutR K cutR) := GC0.imp fun vs H Q E ⟨a, xs, rs, s, e, h1, h2, h3, h4, h5, h6, h7, h8, h9, h10⟩ =>
    ⟨a, xs, rs, s, .int e, h1, h2, h3, Nat.le_trans h6 (by decide), .inr ⟨e, rfl⟩, fun off => by rcases off with z | z | z <;> (try simp only [Q9.lastOf] at z) <;> omega, fun _ => h10⟩
  have GR0 := (Q9.ok_rest (P := l.prog) (w := w) (base := base) FR T V0.O D0 D1 D2 D3 D9 D4 D8).mono (show 5 ≤ 12 by decide)
  have GR : FnOk l.prog w K mg base (CXE l.prog w) 12 f14 _ ["bank", "start", "end"] (spCutR K restR) := GR0.imp fun vs H Q E ⟨a, xs, rs, s, e, h1, h2, h3, h4, h5, h6, h7, h8, h9, h10⟩ =>
    ⟨a, xs, rs, s, .int e, h1, h2, h3, Nat.le_trans h6 (by decide), h4, h5, .inr ⟨e, rfl⟩, fun off => by rcases off with z | z | z <;> (try simp only [Q9.lastOf] at z) <;> omega, fun _ => h10⟩
  exact ok_law F27 TL (by decide) D19 D20 D21 D22 D23 D24 D25 D26 (PySem.W.mg_of X G ha13) hk13 D13.bd GH (PySem.W.mg_of X G ha18) hk18 bD GD (PySem.W.mg_of X G ha10) hk10 D10.b0 GC (PySem.W.mg_of X G ha14) hk14 D14.b0 GR
theorem walk {l : PySem.W.OpenLaw} {q : Program} {loose : List Str} {XP : (Str → Option Value) → Heap → Prop} {YP : World → Heap → Prop} {d : DefRec} {K : Params → PySem.W.Frag} (hn : l.most = some 63) (hdf : d.params.defaults = [])
    (hY : ∀ (w : World) (h : Heap), YP w h → (K w.params).In h)
    (F : ∀ (w : World) (mg : Str → Option Value) (fa : Addr) (h : Heap), (K w.params).In h → h.Ns mainGlobals mg → mg d.name = some (.ref fa) →
      ∃ fd : FuncData, (∀ (s : Shared) (u : Value), BindsTo s fd ⟨[u], []⟩ [("_law_script", u)]) ∧ ∀ base : Heap, (K w.params).In base → base.Ns mainGlobals mg → FnOk l.prog w (K w.params) mg base CX0 13 fa fd ["_law_script"] (spLaw (K w.params))) :
    PySem.W.WalkO q loose XP YP l.row.toRowW d [] (fun f vs => PySem.call f vs) :=
  L2.walk_of (n := 63) (k := 13) (x := "_law_script") (CX := fun _ => CX0) (sp := fun w => spLaw (K w.params)) hn (by decide) hdf ⟨rfl, by decide, by decide⟩ hY F (fun _ _ a ns hl _ hS => ⟨a, ns, rfl, hS, hl, fun _ => rfl⟩) fun _ _ _ _ _ z => z
end K9
open PySem PySem.W PyProof.Rows
set_option maxRecDepth 100000 in
set_option maxHeartbeats 0 in
theorem PySem.Challenge.cw_bankshare_k09_dealt_by_halves_holds : PySem.Challenge.rw_bankshare_k09_dealt_by_halves.Holds := by
  w_on; o_law; k_head; (case hw => w_witness2)
  k_fill
  refine K9.walk (l := PySem.Challenge.rw_bankshare_k09_dealt_by_halves) rfl rfl (fun w h Y => PySem.W.kIn_of Y) ?F
  case F =>
    intro w mg fa h KX G hmg
    refine' K9.all_mk KX G hmg ?a0 ?l0 ?c0 ?k0 ?a1 ?l1 ?c1 ?k1 ?a2 ?l2 ?c2 ?k2 ?a3 ?l3 ?c3 ?k3 ?a4 ?l4 ?c4 ?k4 ?a5 ?l5 ?c5 ?k5 ?a6 ?l6 ?c6 ?k6 ?a7 ?l7 ?c7 ?k7 ?a8 ?l8 ?c8 ?k8 ?a9 ?l9 ?c9 ?k9 ?a10 ?l10 ?c10 ?k10 ?t10 ?a11 ?l11 ?c11 ?k11 ?a12 ?l12 ?c12 ?k12 ?a13 ?l13 ?c13 ?k13 ?a14 ?l14 ?c14 ?k14 ?t14 ?a15 ?l15 ?c15 ?k15 ?a16 ?l16 ?c16 ?k16 ?a17 ?l17 ?c17 ?k17 ?a18 ?l18 ?c18 ?k18 ?t18 ?a19 ?l19 ?c19 ?k19 ?a20 ?l20 ?c20 ?k20 ?a21 ?l21 ?c21 ?k21 ?a22 ?l22 ?c22 ?k22 ?a23 ?l23 ?c23 ?k23 ?a24 ?l24 ?c24 ?k24 ?a25 ?l25 ?c25 ?k25 ?a26 ?l26 ?c26 ?k26 ?a27 ?l27 ?c27 ?k27 ?z_isinstance ?z_str ?z_int ?z_bool ?z_list ?z_tuple ?z_len ?z_sum ?z_max ?z_min ?z_range ?z_enumerate ?z_ValueError ?z_reversed ?z_abs ?dry ?wet ?gO ?exO ?gH ?tH
    (case a0 => k_is)
    (case l0 => k_is)
    (case c0 => k_is)
    (case k0 => k_is)
    (case a1 => k_is)
    (case l1 => k_is)
    (case c1 => k_is)
    (case k1 => k_is)
    (case a2 => k_is)
    (case l2 => k_is)
    (case c2 => k_is)
    (case k2 => k_is)
    (case a3 => k_is)
    (case l3 => k_is)
    (case c3 => k_is)
    (case k3 => k_is)
    (case a4 => k_is)
    (case l4 => k_is)
    (case c4 => k_is)
    (case k4 => k_is)
    (case a5 => k_is)
    (case l5 => k_is)
    (case c5 => k_is)
    (case k5 => k_is)
    (case a6 => k_is)
    (case l6 => k_is)
    (case c6 => k_is)
    (case k6 => k_is)
    (case a7 => k_is)
    (case l7 => k_is)
    (case c7 => k_is)
    (case k7 => k_is)
    (case a8 => k_is)
    (case l8 => k_is)
    (case c8 => k_is)
    (case k8 => k_is)
    (case a9 => k_is)
    (case l9 => k_is)
    (case c9 => k_is)
    (case k9 => k_is)
    (case a10 => k_is)
    (case l10 => k_is)
    (case c10 => k_is)
    (case k10 => k_is)
    (case t10 => k_is)
    (case a11 => k_is)
    (case l11 => k_is)
    (case c11 => k_is)
    (case k11 => k_is)
    (case a12 => k_is)
    (case l12 => k_is)
    (case c12 => k_is)
    (case k12 => k_is)
    (case a13 => k_is)
    (case l13 => k_is)
    (case c13 => k_is)
    (case k13 => k_is)
    (case a14 => k_is)
    (case l14 => k_is)
    (case c14 => k_is)
    (case k14 => k_is)
    (case t14 => k_is)
    (case a15 => k_is)
    (case l15 => k_is)
    (case c15 => k_is)
    (case k15 => k_is)
    (case a16 => k_is)
    (case l16 => k_is)
    (case c16 => k_is)
    (case k16 => k_is)
    (case a17 => k_is)
    (case l17 => k_is)
    (case c17 => k_is)
    (case k17 => k_is)
    (case a18 => k_is)
    (case l18 => k_is)
    (case c18 => k_is)
    (case k18 => k_is)
    (case t18 => k_is)
    (case a19 => k_is)
    (case l19 => k_is)
    (case c19 => k_is)
    (case k19 => k_is)
    (case a20 => k_is)
    (case l20 => k_is)
    (case c20 => k_is)
    (case k20 => k_is)
    (case a21 => k_is)
    (case l21 => k_is)
    (case c21 => k_is)
    (case k21 => k_is)
    (case a22 => k_is)
    (case l22 => k_is)
    (case c22 => k_is)
    (case k22 => k_is)
    (case a23 => k_is)
    (case l23 => k_is)
    (case c23 => k_is)
    (case k23 => k_is)
    (case a24 => k_is)
    (case l24 => k_is)
    (case c24 => k_is)
    (case k24 => k_is)
    (case a25 => k_is)
    (case l25 => k_is)
    (case c25 => k_is)
    (case k25 => k_is)
    (case a26 => k_is)
    (case l26 => k_is)
    (case c26 => k_is)
    (case k26 => k_is)
    (case a27 => k_is)
    (case l27 => k_is)
    (case c27 => k_is)
    (case k27 => k_is)
    (case z_isinstance => k_is)
    (case z_str => k_is)
    (case z_int => k_is)
    (case z_bool => k_is)
    (case z_list => k_is)
    (case z_tuple => k_is)
    (case z_len => k_is)
    (case z_sum => k_is)
    (case z_max => k_is)
    (case z_min => k_is)
    (case z_range => k_is)
    (case z_enumerate => k_is)
    (case z_ValueError => k_is)
    (case z_reversed => k_is)
    (case z_abs => k_is)
    (case dry => k_is)
    (case wet => k_is)
    (case gO => k_is)
    (case exO => k_exc)
    (case gH => k_is)
    (case tH => k_is)
