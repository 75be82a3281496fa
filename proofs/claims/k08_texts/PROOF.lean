import PyProof.Rows.All
import Wide.All
import OpenK.AllK
import Wide.FinOn
import Lean
import PyProof.EqAt
import PyProof.EqKinds
import PyProof.TupleCall
import PyProof.Rows.EqDataRows
import PyProof.NeData
import OpenK.KOwn
import PyProof.InstStoreFacts
import KE.RegKIsAll
import PyProof.StationsW
import PyProof.PassesOwn
import KE.KRevIter
import PyProof.ListRange
import KE.KIntText
import KE.LcSums
import PyProof.MeetsStr2
import PyProof.StrBlock2
import PyProof.StrBlockL
import PyProof.StrCalls6
import PyProof.StrReplace2
import PyProof.SliceStr2
import PyProof.StrLawsTight
import PyProof.Rows.StrItems
import PyProof.Rows.StrSplitAre
import PyProof.EnumMake
import PyProof.StrWalks
import PyProof.StrBlockI
import Wide.Txt
import PyProof.ToksMono
import PyProof.Rows.SortStrRead
import PySem.Challenge.RW_bankshare_k08_texts

set_option Elab.async false
set_option linter.all false
set_option maxRecDepth 100000
/-! THE HAND LAYER, for ints, bools, texts, own classes, LISTS and tuples (index, slices, in, append, pop ..), calls, loops. Paste it whole ahead of your own text; what your proof does not reach may be deleted. -/
namespace L2
open PySem PySem.Spec PyProof.Rows

/-- a key: an int or a str -/
abbrev Key := Sum Int Str
def keyIs : Key → Value → Bool
  | .inl k, v => Value.isInt k v
  | .inr x, v => Value.isStrOf x v
def keyH (w : World) : Key → Int
  | .inl k => hashInt k
  | .inr x => hashStr w x
theorem keyIs_shape : ∀ {k : Key} {v : Value}, keyIs k v = true → (∃ i t, k = Sum.inl i ∧ v = Value.int i t) ∨ (∃ x t, k = Sum.inr x ∧ v = Value.str x t)
  | .inl i, v, h => by
    obtain ⟨t, e⟩ := Value.isInt_shape (k := i) (v := v) h
    exact .inl ⟨i, t, rfl, e⟩
  | .inr x, v, h => by
    obtain ⟨t, e⟩ := Value.isStrOf_shape (x := x) (v := v) h
    exact .inr ⟨x, t, rfl, e⟩
theorem key_ll (a b : Int) : decide ((Sum.inl a : Key) = Sum.inl b) = (a == b) := by
  by_cases e : a = b
  · subst e; simp
  · have h : ¬ (Sum.inl a : Key) = Sum.inl b := fun q => e (Sum.inl.inj q)
    rw [decide_eq_false h]
    exact (beq_eq_false_iff_ne.mpr e).symm
theorem key_rr (a b : Str) : decide ((Sum.inr a : Key) = Sum.inr b) = decide (a = b) := by
  by_cases e : a = b
  · subst e; simp
  · have h : ¬ (Sum.inr a : Key) = Sum.inr b := fun q => e (Sum.inr.inj q)
    rw [decide_eq_false h, decide_eq_false e]
theorem key_lr (a : Int) (b : Str) : decide ((Sum.inl a : Key) = Sum.inr b) = false := decide_eq_false (fun q => nomatch q)
theorem key_rl (a : Str) (b : Int) : decide ((Sum.inr a : Key) = Sum.inl b) = false := decide_eq_false (fun q => nomatch q)

def mixKind (prog : Program) (w : World) : PySem.KeyKind prog w Key where
  is := keyIs
  hash := keyH w
  inj := fun v a b ha hb => by
    rcases keyIs_shape ha with ⟨i, t, rfl, rfl⟩ | ⟨x, t, rfl, rfl⟩
    · rcases keyIs_shape hb with ⟨j, u, rfl, e⟩ | ⟨y, u, rfl, e⟩
      · injection e with e1 _; rw [e1]
      · exact nomatch e
    · rcases keyIs_shape hb with ⟨j, u, rfl, e⟩ | ⟨y, u, rfl, e⟩
      · exact nomatch e
      · injection e with e1 _; rw [e1]
  byValue := fun k v h => by
    rcases keyIs_shape h with ⟨i, t, rfl, rfl⟩ | ⟨x, t, rfl, rfl⟩ <;> rfl
  pyHash := fun hv h => by
    rcases keyIs_shape hv with ⟨i, t, rfl, rfl⟩ | ⟨x, t, rfl, rfl⟩
    · exact wpAny_pyHash_int h
    · exact wpAny_pyHash_str h
  eqBool := fun hu hv h => by
    rcases keyIs_shape hu with ⟨i, t, rfl, rfl⟩ | ⟨x, t, rfl, rfl⟩
    · rcases keyIs_shape hv with ⟨j, u, rfl, rfl⟩ | ⟨y, u, rfl, rfl⟩
      · rw [key_ll] at h; exact wpAny_eqBool_int h
      · rw [key_lr] at h; exact SeqAt.EqAt.int_str i t y u _ _ _ _ h
    · rcases keyIs_shape hv with ⟨j, u, rfl, rfl⟩ | ⟨y, u, rfl, rfl⟩
      · rw [key_rl] at h; exact SeqAt.EqAt.str_int x t j u _ _ _ _ h
      · rw [key_rr] at h; exact wpAny_eqBool_str h
  «strs» := fun k x t v h => by
    rcases keyIs_shape h with ⟨i, u, rfl, e⟩ | ⟨y, u, rfl, e⟩
    · exact nomatch e
    · injection e with e1 _
      subst e1
      cases v <;> rfl

end L2

namespace L2
open PySem PySem.Spec PyProof.Rows

/-- a value, without the heap -/
inductive V where
  | non | bl (b : Bool) | int (i : Int) | str (x : Str) | byt (b : Array UInt8) | flt (b : UInt64) | ref (a : Addr) | ty (n : String)
  deriving DecidableEq

def RelV : V → Value → Prop
  | .non, u => u = Value.none
  | .bl b, u => u = Value.bool b
  | .int i, u => ∃ t, u = Value.int i t
  | .str x, u => ∃ t, u = Value.str x t
  | .byt b, u => ∃ t, u = Value.bytes b t
  | .flt b, u => ∃ t, u = Value.float b t
  | .ref a, u => u = Value.ref a
  | .ty n, u => u = Value.type n

abbrev Vals : List V → List Value → Prop := Paired RelV
theorem Vals.length {xs : List V} {us : List Value} (r : Vals xs us) : xs.length = us.length := Paired.length r
theorem Vals.get : ∀ {xs : List V} {us : List Value} {i : Nat} {x : V}, Vals xs us → xs[i]? = some x → ∃ u, us[i]? = some u ∧ RelV x u
  | _, _, _, _, .nil, e => by simp at e
  | _, _, 0, _, .cons r _, e => by simp at e; subst e; exact ⟨_, rfl, r⟩
  | _, _, i + 1, x, .cons _ t, e => by
    obtain ⟨u, h1, h2⟩ := Vals.get (i := i) (x := x) t (by simpa using e)
    exact ⟨u, by simpa using h1, h2⟩
theorem Vals.set {x : V} {u : Value} (r : RelV x u) : ∀ {xs : List V} {us : List Value} (i : Nat), Vals xs us → Vals (xs.set i x) (us.set i u)
  | _, _, _, .nil => .nil
  | _, _, 0, .cons _ t => .cons r t
  | _, _, i + 1, .cons q t => .cons q (Vals.set r i t)
theorem Vals.append : ∀ {xs ys : List V} {us ws : List Value}, Vals xs us → Vals ys ws → Vals (xs ++ ys) (us ++ ws)
  | _, _, _, _, .nil, s => s
  | _, _, _, _, .cons r t, s => .cons r (Vals.append t s)
theorem Vals.take : ∀ {xs : List V} {us : List Value} (n : Nat), Vals xs us → Vals (xs.take n) (us.take n)
  | _, _, 0, _ => .nil
  | _, _, _ + 1, .nil => .nil
  | _, _, n + 1, .cons r t => .cons r (Vals.take n t)
theorem Vals.drop : ∀ {xs : List V} {us : List Value} (n : Nat), Vals xs us → Vals (xs.drop n) (us.drop n)
  | _, _, 0, r => r
  | _, _, _ + 1, .nil => .nil
  | _, _, n + 1, .cons _ t => Vals.drop n t

def RelO : Option V → Option Value → Prop
  | some v, some u => RelV v u
  | none, none => True
  | _, _ => False
def KV {κ : Type} : List (κ × V) → List (κ × Value) → Prop := Paired fun (p : κ × V) (q : κ × Value) => p.1 = q.1 ∧ RelV p.2 q.2

/-- a key of a dict (00_mix): an int or a text -/
def kV : Key → V
  | .inl i => .int i
  | .inr x => .str x

/-- what stands at a tracked address -/
inductive HO where
  /-- a list -/
  | lst (xs : List V)
  /-- a tuple (never changes) -/
  | tup (xs : List V)
  /-- a dict whose keys are ints and texts; one whose keys are tuples of ints and texts (the empty one is both) -/
  | dK (kvs : List (Key × V)) | dT (kvs : List (List Key × V))
  /-- a set of ints: its members, its size -/
  | set (S : Int → Bool) (n : Nat)
  /-- an instance of the class at C, its dict at dx, its attributes -/
  | ins (C dx : Addr) (fs : List (Str × V))
  /-- the dict of the instance at x -/
  | own (x : Addr)
  /-- the dict of an exception -/
  | xd (fs : List (Str × V))
  /-- a bound method, f of x -/
  | met (f x : Addr)
  /-- a range object lo, lo + 1, .. below hi -/
  | rng (lo hi : Int)
  /-- a thing that is known to the object (the script; a dict while a loop walks it): read, never written while it is so -/
  | frz (o : Obj) (u : HO)
  /-- a code object's table -/
  | tbl (ps : Array Value)
  /-- any other thing, by what is true of its one object (a def of one's own: SetO a S n := HO.ext fun h => ..) -/
  | ext (φ : Heap → Prop)

abbrev Hp := Addr → Option HO
def upd (H : Hp) (a : Addr) (o : HO) : Hp := fun b => if b = a then some o else H b
theorem upd_same {H : Hp} {a : Addr} {o : HO} : upd H a o a = some o := by unfold upd; rw [if_pos rfl]
theorem upd_ne {H : Hp} {a b : Addr} {o : HO} (h : b ≠ a) : upd H a o b = H b := by unfold upd; rw [if_neg h]
theorem ne_of_none {H : Hp} {a b : Addr} {o : HO} (h : H a = some o) (h' : H b = none) : a ≠ b := by
  intro e; subst e; rw [h] at h'; cases h'

section
variable (P : Program) (w : World)
def ObjOk (H : Hp) (h : Heap) (a : Addr) : HO → Prop
  | .lst xs => xs.length ≤ sizeLine ∧ ∃ (its : List Value) (n : Nat), Vals xs its ∧ h.get? a = some { cls := .type "list", data := .seq its.toArray n }
  | .tup xs => xs.length ≤ sizeLine ∧ ∃ its : List Value, Vals xs its ∧ IsTup h a its.toArray
  | .dK kvs => kvs.length ≤ sizeLine ∧ (a == sysModules) = false ∧ ∃ vs, KV kvs vs ∧ h.DictOf (mixKind P w) a vs
  | .dT kvs => kvs.length ≤ sizeLine ∧ (a == sysModules) = false ∧ ∃ xs : List (List Key × Addr × Value),
      Paired (fun (p : List Key × V) (q : List Key × Addr × Value) => p.1 = q.1 ∧ H q.2.1 = some (.tup (p.1.map kV)) ∧ RelV p.2 q.2.2) kvs xs ∧
      ∃ o es ep, h.get? a = some o ∧ o.ExactDict ∧ o.data = .dict es ep ∧ es.toList = xs.map (entryOfKey (tupleKind (mixKind P w))) ∧ (xs.map (·.1)).Nodup
  | .set S n => h.SetOf (intKind P w) a S n
  | .ins C dx fs => H dx = some (.own a) ∧ fs.length ≤ 1000 ∧ dx ≠ a ∧ h.get? a = some (PySem.W.instObj C dx) ∧
      ∃ mA, h.Ns1 dx mA ∧ (∀ f, RelO (fs.lookup f) (mA f)) ∧ PySem.Within mA (fs.map (·.1))
  | .own _ => ∃ o, h.get? a = some o
  | .xd fs => ∃ mA, h.Ns1 a mA ∧ ∀ f, RelO (fs.lookup f) (mA f)
  | .rng lo hi => ∃ t u v, h.get? a = some { cls := .type "range", data := .fields #[.int lo t, .int hi u, .int 1 v] }
  | .frz o u => h.get? a = some o ∧ ObjOk H h a u
  | .tbl ps => h.get? a = some { cls := .none, data := .fields ps }
  | .met f x => h.get? a = some (PySem.W.methodObj (.ref f) (.ref x))
  | .ext φ => φ h ∧ (∃ o, h.get? a = some o) ∧ ∀ h1 h2 : Heap, φ h1 → (∀ o, h1.get? a = some o → h2.get? a = some o) → φ h2
/-- the abstract heap is held -/
def HOk (H : Hp) (h : Heap) : Prop := ∀ a o, H a = some o → ObjOk P w H h a o
end

section
variable {P : Program} {w : World} {H H' : Hp} {h h' : Heap} {a : Addr} {o : HO}
theorem ObjOk.lt (x : ObjOk P w H h a o) : a < h.objs.size := by
  cases o with
  | lst xs => obtain ⟨_, _, _, _, e⟩ := x; exact Heap.lt_size e
  | tup xs => obtain ⟨_, _, _, p⟩ := x; exact p.lt
  | dK kvs => obtain ⟨_, _, _, _, o, _, _, e, _⟩ := x; exact Heap.lt_size e
  | dT kvs => obtain ⟨_, _, _, _, o, _, _, e, _⟩ := x; exact Heap.lt_size e
  | set S n => obtain ⟨o, _, _, _, e, _⟩ := x; exact Heap.lt_size e
  | ins C dx fs => obtain ⟨_, _, _, e, _⟩ := x; exact Heap.lt_size e
  | own y => obtain ⟨_, e⟩ := x; exact Heap.lt_size e
  | xd fs => obtain ⟨_, ⟨_, _, _, e, _⟩, _⟩ := x; exact Heap.lt_size e
  | rng lo hi => obtain ⟨_, _, _, e⟩ := x; exact Heap.lt_size e
  | frz ob u => obtain ⟨e, _⟩ := x; exact Heap.lt_size e
  | tbl ps => exact Heap.lt_size (show h.get? a = some _ from x)
  | met f y => exact Heap.lt_size (show h.get? a = some _ from x)
  | ext φ => obtain ⟨_, ⟨_, e⟩, _⟩ := x; exact Heap.lt_size e
theorem Paired.mapP {α β : Type} {F G : α → β → Prop} : ∀ {l₁ : List α} {l₂ : List β}, Paired F l₁ l₂ → (∀ a b, F a b → G a b) → Paired G l₁ l₂
  | _, _, .nil, _ => .nil
  | _, _, .cons r t, f => .cons (f _ _ r) (Paired.mapP t f)
/-- what an object's description leans on: its own object, its own dict, the tuples -/
theorem ObjOk.stay (x : ObjOk P w H h a o) (k : ∀ b u, (b = a ∨ H b = some (.own a)) → h.get? b = some u → h'.get? b = some u)
    (ho : ∀ b, H b = some (.own a) → H' b = some (.own a)) (ht : ∀ b xs, H b = some (.tup xs) → H' b = some (.tup xs)) : ObjOk P w H' h' a o := by
  induction o with
  | lst xs => obtain ⟨z, its, n, r, e⟩ := x; exact ⟨z, its, n, r, k _ _ (.inl rfl) e⟩
  | tup xs => obtain ⟨z, its, r, ob, e, c⟩ := x; exact ⟨z, its, r, ob, k _ _ (.inl rfl) e, c⟩
  | dK kvs => obtain ⟨z, y, vs, r, ob, es, ep, e, c⟩ := x; exact ⟨z, y, vs, r, ob, es, ep, k _ _ (.inl rfl) e, c⟩
  | dT kvs =>
    obtain ⟨z, y, xs, r, ob, es, ep, e, c⟩ := x
    exact ⟨z, y, xs, Paired.mapP r fun p q z => ⟨z.1, ht _ _ z.2.1, z.2.2⟩, ob, es, ep, k _ _ (.inl rfl) e, c⟩
  | set S n => obtain ⟨ob, es, ep, t, e, c⟩ := x; exact ⟨ob, es, ep, t, k _ _ (.inl rfl) e, c⟩
  | ins C dx fs =>
    obtain ⟨d, z, ne, e, mA, ⟨od, es, ep, e2, c⟩, r⟩ := x
    exact ⟨ho _ d, z, ne, k _ _ (.inl rfl) e, mA, ⟨od, es, ep, k _ _ (.inr d) e2, c⟩, r⟩
  | own y => obtain ⟨ob, e⟩ := x; exact ⟨ob, k _ _ (.inl rfl) e⟩
  | xd fs => obtain ⟨mA, ⟨od, es, ep, e, c⟩, r⟩ := x; exact ⟨mA, ⟨od, es, ep, k _ _ (.inl rfl) e, c⟩, r⟩
  | rng lo hi => obtain ⟨t, u, v, e⟩ := x; exact ⟨t, u, v, k _ _ (.inl rfl) e⟩
  | frz ob u ih => obtain ⟨e, q⟩ := x; exact ⟨k _ _ (.inl rfl) e, ih q⟩
  | tbl ps =>
    have e : h.get? a = some { cls := .none, data := .fields ps } := x
    show h'.get? a = some { cls := .none, data := .fields ps }
    exact k a _ (.inl rfl) e
  | met f y =>
    have e : h.get? a = some (PySem.W.methodObj (.ref f) (.ref y)) := x
    show h'.get? a = some (PySem.W.methodObj (.ref f) (.ref y))
    exact k a _ (.inl rfl) e
  | ext φ => obtain ⟨p, ⟨o, e⟩, st⟩ := x; exact ⟨st _ _ p fun o q => k _ _ (.inl rfl) q, ⟨o, k _ _ (.inl rfl) e⟩, st⟩
theorem HOk.lt (x : HOk P w H h) (e : H a = some o) : a < h.objs.size := (x a o e).lt
theorem HOk.fresh (x : HOk P w H h) (e : h.objs.size ≤ a) : H a = none := by
  cases q : H a with
  | none => rfl
  | some u => exact absurd (Nat.lt_of_lt_of_le (x.lt q) e) (Nat.lt_irrefl _)
/-- every object of the heap is kept -/
theorem HOk.kept (x : HOk P w H h) (k : ∀ b u, h.get? b = some u → h'.get? b = some u) : HOk P w H h' := fun a o e =>
  (x a o e).stay (fun b u _ q => k b u q) (fun _ q => q) fun _ _ q => q
/-- a new object is laid and tracked -/
theorem HOk.laid (x : HOk P w H h) (k : ∀ b u, h.get? b = some u → h'.get? b = some u) (hp : h.objs.size ≤ a) (new : ObjOk P w (upd H a o) h' a o) : HOk P w (upd H a o) h' := fun b u e => by
  have hn := x.fresh hp
  by_cases hb : b = a
  · subst hb; rw [upd_same] at e; cases e; exact new
  · rw [upd_ne hb] at e
    exact (x b u e).stay (fun c v _ q => k c v q) (fun c q => by rw [upd_ne (ne_of_none q hn)]; exact q) fun c xs q => by rw [upd_ne (ne_of_none q hn)]; exact q
end

/-- what may be read as u: it is u, or a known u -/
def Rd (H : Hp) (a : Addr) (u : HO) : Prop := H a = some u ∨ ∃ o, H a = some (.frz o u)
theorem Rd.ok {P : Program} {w : World} {H : Hp} {h : Heap} {a : Addr} {u : HO} (r : Rd H a u) (x : HOk P w H h) : ObjOk P w H h a u := by
  rcases r with r | ⟨o, r⟩
  · exact x a u r
  · obtain ⟨_, q⟩ := x a _ r
    exact q
/-- what may be written -/
def Mut : Option HO → Prop
  | some (.lst _) => True
  | some (.dK _) => True
  | some (.dT _) => True
  | some (.set _ _) => True
  | some (.ins _ _ _) => True
  | some (.ext _) => True
  | _ => False
section
variable {P : Program} {w : World} {H : Hp} {h h' : Heap} {x e : Addr} {o' : HO}
/-- the object at e is changed: x itself, or the dict of the instance x -/
theorem HOk.write (ok : HOk P w H h) (mu : Mut (H x)) (he : e = x ∨ H e = some (.own x)) (k : ∀ b u, b ≠ e → h.get? b = some u → h'.get? b = some u) (heo : ∃ u, h'.get? e = some u)
    (new : ObjOk P w (upd H x o') h' x o') : HOk P w (upd H x o') h' := fun b u q => by
  have nown : ∀ c y, H c = some (.own y) → c ≠ x := fun c y r z => by subst z; rw [r] at mu; exact mu
  have ntup : ∀ c xs, H c = some (.tup xs) → c ≠ x := fun c xs r z => by subst z; rw [r] at mu; exact mu
  by_cases hb : b = x
  · subst hb; rw [upd_same] at q; cases q; exact new
  · rw [upd_ne hb] at q
    by_cases hbe : b = e
    · have q' : H b = some (.own x) := by
        rcases he with z | z
        · exact absurd (hbe.trans z) hb
        · rw [hbe]; exact z
      rw [q] at q'; cases q'
      obtain ⟨v, hv⟩ := heo
      exact ⟨v, by rw [hbe]; exact hv⟩
    · refine (ok b u q).stay (fun c v hc r => k c v ?_ r) (fun c r => by rw [upd_ne (nown c b r)]; exact r) fun c xs r => by rw [upd_ne (ntup c xs r)]; exact r
      rcases hc with rfl | hc
      · exact hbe
      · rintro rfl
        rcases he with z | z
        · exact nown c b hc z
        · rw [hc] at z; cases z; exact hb rfl
end

/-! ### kept unless tracked; of the frames at fs (the callers') the slots may change (an exception that passes writes there); of the records at ex (iterators) nothing is said -/
structure Un (fs ex : List Addr) (H H' : Hp) (h h' : Heap) : Prop where
  keep : ∀ b o, h.get? b = some o → H b = none → b ∉ fs → b ∉ ex → h'.get? b = some o
  slot : ∀ b o, h.get? b = some o → H b = none → b ∈ fs → b ∉ ex → ∃ sl, h'.get? b = some { o with slots := sl }
  free : ∀ b o, h.get? b = some o → H b = none → b ∉ ex → H' b = none
  there : ∀ b o, h.get? b = some o → b ∉ ex → ∃ o', h'.get? b = some o'
  tups : ∀ b xs, H b = some (.tup xs) → H' b = some (.tup xs)
  frzs : ∀ b o u, H b = some (.frz o u) → H' b = some (.frz o u)
  tbls : ∀ b ps, H b = some (.tbl ps) → ∃ more, H' b = some (.tbl (ps ++ more))
section
variable {fs fs' ex ex' : List Addr} {H H1 H2 : Hp} {h h1 h2 h' : Heap} {a x e : Addr} {o : HO}
theorem Un.any (u : Un fs ex H H1 h h1) {b : Addr} {ob : Obj} (q : h.get? b = some ob) (n : H b = none) (hx : b ∉ ex) : ∃ sl, h1.get? b = some { ob with slots := sl } := by
  by_cases hb : b ∈ fs
  · exact u.slot b ob q n hb hx
  · exact ⟨ob.slots, u.keep b ob q n hb hx⟩
theorem Un.kept (k : ∀ b u, h.get? b = some u → h'.get? b = some u) : Un fs ex H H h h' :=
  ⟨fun b ob q _ _ _ => k b ob q, fun b ob q _ _ _ => ⟨ob.slots, k b ob q⟩, fun _ _ _ n _ => n, fun b ob q _ => ⟨ob, k b ob q⟩, fun _ _ q => q, fun _ _ _ q => q, fun _ ps q => ⟨#[], by rw [q]; simp⟩⟩
theorem Un.refl : Un fs ex H H h h := Un.kept fun _ _ q => q
theorem Un.laid (k : ∀ b u, h.get? b = some u → h'.get? b = some u) (hp : h.objs.size ≤ a) (hn : H a = none) : Un fs ex H (upd H a o) h h' where
  keep := fun b u q _ _ _ => k b u q
  slot := fun b u q _ _ _ => ⟨u.slots, k b u q⟩
  free := fun b u q n _ => by rw [upd_ne (Nat.ne_of_lt (Nat.lt_of_lt_of_le (Heap.lt_size q) hp))]; exact n
  there := fun b u q _ => ⟨u, k b u q⟩
  tups := fun b xs q => by rw [upd_ne (ne_of_none q hn)]; exact q
  frzs := fun b u xs q => by rw [upd_ne (ne_of_none q hn)]; exact q
  tbls := fun b ps q => ⟨#[], by rw [upd_ne (ne_of_none q hn), q]; simp⟩
theorem Un.write (mu : Mut (H x)) (he : e = x ∨ H e = some (.own x)) (k : ∀ b u, b ≠ e → h.get? b = some u → h'.get? b = some u) (heo : ∃ u, h'.get? e = some u) : Un fs ex H (upd H x o) h h' := by
  have hx : ∀ b, H b = none → b ≠ x := fun b n z => by subst z; rw [n] at mu; exact mu
  have hb : ∀ b, H b = none → b ≠ e := fun b n z => by
    subst z
    rcases he with r | r
    · exact hx b n r
    · rw [n] at r; cases r
  have hm : ∀ b u, H b = some u → ¬ Mut (some u) → b ≠ x := fun b u q nm z => by subst z; rw [q] at mu; exact nm mu
  refine ⟨fun b u q n _ _ => k b u (hb b n) q, fun b u q n _ _ => ⟨u.slots, k b u (hb b n) q⟩, fun b u q n _ => by rw [upd_ne (hx b n)]; exact n, fun b u q _ => ?_,
    fun b xs q => by rw [upd_ne (hm b _ q fun z => z)]; exact q, fun b u xs q => by rw [upd_ne (hm b _ q fun z => z)]; exact q, fun b ps q => ⟨#[], by rw [upd_ne (hm b _ q fun z => z), q]; simp⟩⟩
  by_cases hbe : b = e
  · subst hbe; exact heo
  · exact ⟨u, k b u hbe q⟩
end

/-! ### the heap without what is tracked -/
def trk (h : Heap) (H : Hp) : List Addr := (List.range h.objs.size).filter fun a => (H a).isSome
def hidT (h : Heap) (H : Hp) : Heap := PySem.W.hideAll h (trk h H)
theorem hidT_size (h : Heap) (H : Hp) : (hidT h H).objs.size = h.objs.size := PySem.W.hideAll_size _ _
theorem hidT_get {h : Heap} {H : Hp} {b : Addr} {o : Obj} (e : h.get? b = some o) (n : H b = none) : (hidT h H).get? b = some o :=
  PySem.W.hideAll_get _ e fun hm => by
    have q : (H b).isSome = true := (List.mem_filter.mp hm).2
    rw [n] at q; simp at q
theorem of_hidT {h : Heap} {H : Hp} {b : Addr} {o : Obj} (e : (hidT h H).get? b = some o) : h.get? b = some o ∧ H b = none := by
  have e' : h.get? b = some o := PySem.W.of_hideAll (trk h H) e
  refine ⟨e', ?_⟩
  cases q : H b with
  | none => rfl
  | some x =>
    have hm : b ∈ trk h H := List.mem_filter.mpr ⟨List.mem_range.mpr (Heap.lt_size e'), by simp [q]⟩
    have z : (hidT h H).get? b = none := PySem.W.hideAll_none (trk h H) hm
    rw [z] at e; cases e

/-! ### OpenK's ledger, filled with every new object but one -/
end L2

namespace L2
open PySem PySem.Spec PyProof.Rows

/-- the module's facts, over the base: the heap at the law's entry without what is tracked there -/
structure Mod (K : PySem.W.Frag) (mg : Str → Option Value) (base : Heap) : Prop where
  kin : K.In base
  glob : base.Ns mainGlobals mg
  blt : ∃ mb, base.Ns builtinsNs mb ∧ ∀ x : Str, x ≠ "__name__" → mb x = bootBuiltins x
  nolimit : base.NoLimit

/-- the context: a def's body (or a comprehension's block) running. base: fixed through the whole law; s₀, H₀: the entry; outer: the frames whose slots others may change (a def's callers); stack: all frames that run;
   ex: iterators that were made ahead of the entry and are walked here (a comprehension's); fn: the names whose cells were made at the entry (a def: all; a comprehension's block: its own); calm: not within an except suite; pn: pins that every state bears; xe: what is wanted of an exception that leaves the code -/
structure Cx where
  prog : Program
  w : World
  K : PySem.W.Frag
  mg : Str → Option Value
  base : Heap
  A : Around
  N : List Str
  s₀ : Shared
  H₀ : Hp
  env : Env
  outer : List Env
  stack : List Env
  ex : List Addr
  fn : Str → Bool
  calm : Bool
  pn : List (Addr × Obj)
  xe : Value → Shared → Prop
/-- the callers' frames -/
def frs (l : List Env) : List Addr := l.filterMap (·.frame)
abbrev Cx.fs (X : Cx) : List Addr := frs X.outer

def Vis (sc : Scope) (x : Str) : Prop := sc.names.lookup x = some .local ∨ sc.names.lookup x = some .cell ∨ sc.names.lookup x = some .free
def Loc (sc : Scope) (x : Str) : Prop := sc.names.lookup x = some .local ∨ sc.names.lookup x = some .cell
def Look (env : Env) (h : Heap) (m : Str → Option Value) (x : Str) (u : Value) : Prop :=
  (env.kindOf x = some .local ∧ m x = some u) ∨ ((env.kindOf x = some .cell ∨ env.kindOf x = some .free) ∧ ∃ c, env.cells.lookup x = some c ∧ h.IsCell c (some u))

structure Cx.Ok (X : Cx) : Prop where
  mod : Mod X.K X.mg X.base
  kind : X.env.scope.kind = .function
  glob : X.env.globals = mainGlobals
  blt : X.env.builtins = builtinsNs
  above : X.s₀.heap.objs.size ≤ X.env.locals
  inj : ∀ x y c, X.env.cells.lookup x = some c → X.env.cells.lookup y = some c → x = y
  has : ∀ x, (X.env.kindOf x = some .cell ∨ X.env.kindOf x = some .free) → ∃ c, X.env.cells.lookup x = some c
  cab : ∀ x c, X.fn x = true → X.env.cells.lookup x = some c → X.s₀.heap.objs.size ≤ c
  hd : X.calm = true → X.A.handled = none
  frames : X.A.frames = some X.stack
  stk : X.stack = X.outer ∨ (X.stack = X.env :: X.outer ∧ X.env.frame = some X.env.locals)
  exf : ∀ b ∈ X.ex, b ≠ X.env.locals ∧ ∀ x c, X.env.cells.lookup x = some c → c ≠ b
  bs : ∀ b o, X.base.get? b = some o → X.s₀.heap.get? b = some o ∧ X.H₀ b = none
  bsz : X.base.objs.size ≤ X.s₀.heap.objs.size
  noex : ∀ b o, X.base.get? b = some o → b ∉ X.ex
  exfs : ∀ b ∈ X.ex, b ∉ X.fs
  funs : X.s₀.heap.FunFrames X.base X.outer
  frf : ∀ b ∈ X.fs, X.H₀ b = none

structure Inv (X : Cx) (pins : List (Addr × Obj)) (σ : List (Option V)) (H : Hp) (s : Shared) : Prop where
  ok : X.Ok
  os : s.os = X.s₀.os
  bare : AllBare s.gens
  base : Un X.fs X.ex X.H₀ H X.s₀.heap s.heap
  loc : ∃ m, s.heap.Ns X.env.locals m ∧ ∀ (i : Nat) (x : Str) (v : V), X.N[i]? = some x → σ[i]? = some (some v) → Vis X.env.scope x → ∃ u, RelV v u ∧ Look X.env s.heap m x u
  cell : ∀ x c, X.env.cells.lookup x = some c → ∃ v, s.heap.IsCell c v
  free : H X.env.locals = none
  freeC : ∀ x c, X.env.cells.lookup x = some c → H c = none
  pin : ∀ p ∈ X.pn ++ pins, s.heap.get? p.1 = some p.2 ∧ H p.1 = none ∧ p.1 ≠ X.env.locals ∧ p.1 ∉ X.fs ∧ ∀ v, p.2.data ≠ .cell v
  hok : HOk X.prog X.w H s.heap
  len : σ.length = X.N.length

section
variable {X : Cx} {pins : List (Addr × Obj)} {σ : List (Option V)} {H H' : Hp} {s : Shared} {h' : Heap}

theorem Cx.Ok.nofr (ok : X.Ok) {b : Addr} {o : Obj} (e : X.base.get? b = some o) : b ∉ X.fs := fun hb => by
  have := (ok.funs.mem hb).1
  rw [e] at this; cases this
theorem Inv.bs (I : Inv X pins σ H s) : ∀ b o, X.base.get? b = some o → s.heap.get? b = some o ∧ H b = none := fun b o e =>
  ⟨I.base.keep b o (I.ok.bs b o e).1 (I.ok.bs b o e).2 (I.ok.nofr e) (I.ok.noex b o e), I.base.free b o (I.ok.bs b o e).1 (I.ok.bs b o e).2 (I.ok.noex b o e)⟩
theorem Inv.bk (I : Inv X pins σ H s) : ∀ b o, X.base.get? b = some o → s.heap.get? b = some o := fun b o e => (I.bs b o e).1
theorem Inv.mod (I : Inv X pins σ H s) : Mod X.K X.mg X.base := I.ok.mod
theorem Inv.kIn (I : Inv X pins σ H s) : X.K.In s.heap := I.ok.mod.kin.keeps I.bk
/-- the frame over the base: for OpenK's rules (K.In X.base is I.mod.kin) -/
theorem Inv.fr (I : Inv X pins σ H s) : ∃ m, Fr X.base X.env.locals s.heap m :=
  let ⟨m, hn, _⟩ := I.loc
  ⟨m, hn, I.bk, Nat.le_trans I.ok.bsz I.ok.above⟩
theorem Inv.lt (I : Inv X pins σ H s) : X.env.locals < s.heap.objs.size := let ⟨_, hn, _⟩ := I.loc; hn.lt
theorem Inv.sz (I : Inv X pins σ H s) : X.s₀.heap.objs.size ≤ s.heap.objs.size := Nat.le_trans I.ok.above (Nat.le_of_lt I.lt)
theorem Inv.nofs (I : Inv X pins σ H s) {a : Addr} (h : s.heap.objs.size ≤ a) : a ∉ X.fs := fun hb => by
  obtain ⟨_, o, ho, _⟩ := I.ok.funs.mem hb
  exact absurd (Nat.lt_of_lt_of_le (Heap.lt_size ho) (Nat.le_trans I.sz h)) (Nat.lt_irrefl _)
theorem Inv.cne (I : Inv X pins σ H s) : ∀ x c, X.env.cells.lookup x = some c → c ≠ X.env.locals := fun x c e z => by
  obtain ⟨v, o, ho, hd⟩ := I.cell x c e
  obtain ⟨m, ⟨o', es, ep, ho', hd', _⟩, _⟩ := I.loc
  rw [z, ho'] at ho; cases ho; rw [hd'] at hd; cases hd
theorem Inv.funs (I : Inv X pins σ H s) : s.heap.FunFrames X.base X.outer := by
  have all : ∀ (l : List Env), (∀ b ∈ frs l, b ∈ X.fs) → X.s₀.heap.FunFrames X.base l → s.heap.FunFrames X.base l := by
    intro l
    induction l with
    | nil => intro _ _; trivial
    | cons env r ih =>
      intro hs hl
      obtain ⟨hk, ⟨L, o, hf, hn, ho, hd⟩, hr⟩ := hl
      have hL : L ∈ X.fs := hs L (by unfold frs; rw [List.filterMap_cons, hf]; exact List.mem_cons_self)
      obtain ⟨sl, e⟩ := I.base.slot L o ho (I.ok.frf L hL) hL fun z => I.ok.exfs L z hL
      exact ⟨hk, ⟨L, _, hf, hn, e, hd⟩, ih (fun b hb => hs b (by unfold frs; rw [List.filterMap_cons, hf]; exact List.mem_cons_of_mem _ hb)) hr⟩
  exact all X.outer (fun _ hb => hb) I.ok.funs

/-- the frames that run, for a call -/
theorem Inv.stack (I : Inv X pins σ H s) : s.heap.FunFrames X.base X.stack := by
  rcases I.ok.stk with e | ⟨e, hf⟩
  · rw [e]; exact I.funs
  · rw [e]
    obtain ⟨m, hn, _⟩ := I.loc
    refine .cons (by rw [I.ok.kind]; decide) hf hn ?_ I.funs
    exact Heap.get?_none_of_le (Nat.le_trans I.ok.bsz I.ok.above)
theorem Inv.stkSub (I : Inv X pins σ H s) : ∀ b ∈ frs X.stack, b ∈ X.env.locals :: X.fs := fun b hb => by
  rcases I.ok.stk with e | ⟨e, hf⟩
  · rw [e] at hb; exact List.mem_cons_of_mem _ hb
  · rw [e] at hb
    unfold frs at hb
    rw [List.filterMap_cons, hf] at hb
    exact hb
theorem Inv.stkFree (I : Inv X pins σ H s) : ∀ b ∈ frs X.stack, H b = none := fun b hb => by
  rcases List.mem_cons.mp (I.stkSub b hb) with e | hb
  · rw [e]; exact I.free
  · obtain ⟨_, o, ho, _⟩ := I.ok.funs.mem hb
    exact I.base.free b o ho (I.ok.frf b hb) fun z => I.ok.exfs b z hb

/-- THE STEP: the untracked objects but the frame and the records at ch are kept (the callers' frames up to slots), the frame's map is kept, the new abstract heap is held -/
theorem Inv.step {g' : Array GenState} {t' : Nat} {d' : Drawn} {ch : List Addr} (I : Inv X pins σ H s)
    (hch : ∀ b ∈ ch, (b ∈ X.ex ∨ X.s₀.heap.objs.size ≤ b) ∧ b ≠ X.env.locals ∧ (∀ x c, X.env.cells.lookup x = some c → c ≠ b) ∧ ∀ p ∈ X.pn ++ pins, p.1 ≠ b)
    (keep : ∀ b o, b ≠ X.env.locals → b ∉ X.fs → b ∉ ch → s.heap.get? b = some o → H b = none → h'.get? b = some o)
    (slot : ∀ b o, b ≠ X.env.locals → b ∈ X.fs → b ∉ ch → s.heap.get? b = some o → H b = none → ∃ sl, h'.get? b = some { o with slots := sl }) (free : ∀ b o, b ∉ ch → s.heap.get? b = some o → H b = none → H' b = none)
    (there : ∀ b o, b ∉ ch → s.heap.get? b = some o → ∃ o', h'.get? b = some o')
    (tups : ∀ b xs, H b = some (.tup xs) → H' b = some (.tup xs)) (frzs : ∀ b o u, H b = some (.frz o u) → H' b = some (.frz o u)) (tbls : ∀ b ps, H b = some (.tbl ps) → ∃ more, H' b = some (.tbl (ps ++ more)))
    (ns : ∀ m, s.heap.Ns X.env.locals m → h'.Ns X.env.locals m) (hok : HOk X.prog X.w H' h') (hg : AllBare g') :
    Inv X pins σ H' { s with heap := h', gens := g', drawn := d', toks := t' } := by
  have neL : ∀ b o, X.s₀.heap.get? b = some o → b ≠ X.env.locals := fun b o e => Nat.ne_of_lt (Nat.lt_of_lt_of_le (Heap.lt_size e) I.ok.above)
  have neC : ∀ b o, X.s₀.heap.get? b = some o → b ∉ X.ex → b ∉ ch := fun b o e hx hb => by
    rcases (hch b hb).1 with z | z
    · exact hx z
    · exact absurd (Nat.lt_of_lt_of_le (Heap.lt_size e) z) (Nat.lt_irrefl _)
  have cellK : ∀ x c, X.env.cells.lookup x = some c → ∀ v, s.heap.IsCell c v → h'.IsCell c v := fun x c e v ⟨o, ho, hd⟩ => by
    have nch : c ∉ ch := fun z => (hch c z).2.2.1 x c e rfl
    by_cases hc : c ∈ X.fs
    · obtain ⟨sl, q⟩ := slot c o (I.cne x c e) hc nch ho (I.freeC x c e)
      exact ⟨_, q, hd⟩
    · exact ⟨o, keep c o (I.cne x c e) hc nch ho (I.freeC x c e), hd⟩
  refine ⟨I.ok, I.os, hg, ⟨fun b o e n hb hx => ?_, fun b o e n hb hx => ?_, fun b o e n hx => ?_, fun b o e hx => ?_, fun b xs e => tups b xs (I.base.tups b xs e), fun b o xs e => frzs b o xs (I.base.frzs b o xs e), fun b ps e => ?_⟩, ?_, fun x c e => ?_, ?_, fun x c e => ?_, fun p hp => ?_, hok, I.len⟩
  · exact keep b o (neL b o e) hb (neC b o e hx) (I.base.keep b o e n hb hx) (I.base.free b o e n hx)
  · obtain ⟨sl, e1⟩ := I.base.slot b o e n hb hx
    obtain ⟨sl', e2⟩ := slot b _ (neL b o e) hb (neC b o e hx) e1 (I.base.free b o e n hx)
    exact ⟨sl', e2⟩
  · obtain ⟨o', e1⟩ := I.base.there b o e hx
    exact free b o' (neC b o e hx) e1 (I.base.free b o e n hx)
  · obtain ⟨o', e1⟩ := I.base.there b o e hx
    exact there b o' (neC b o e hx) e1
  · obtain ⟨m1, e1⟩ := I.base.tbls b ps e
    obtain ⟨m2, e2⟩ := tbls b _ e1
    exact ⟨m1 ++ m2, by rw [e2, Array.append_assoc]⟩
  · obtain ⟨m, hn, hl⟩ := I.loc
    refine ⟨m, ns m hn, fun i x v e1 e2 e3 => ?_⟩
    obtain ⟨u, r, l⟩ := hl i x v e1 e2 e3
    refine ⟨u, r, ?_⟩
    rcases l with l | ⟨k, c, e, z⟩
    · exact .inl l
    · exact .inr ⟨k, c, e, cellK x c e _ z⟩
  · obtain ⟨v, z⟩ := I.cell x c e
    exact ⟨v, cellK x c e v z⟩
  · obtain ⟨m, ⟨o, _, _, ho, _⟩, _⟩ := I.loc
    exact free _ o (fun z => (hch _ z).2.1 rfl) ho I.free
  · obtain ⟨v, o, ho, hd⟩ := I.cell x c e
    exact free c o (fun z => (hch c z).2.2.1 x c e rfl) ho (I.freeC x c e)
  · obtain ⟨e, n, ne, nf, d⟩ := I.pin p hp
    have nch : p.1 ∉ ch := fun z => (hch p.1 z).2.2.2 p hp rfl
    exact ⟨keep p.1 p.2 ne nf nch e n, free p.1 p.2 nch e n, ne, nf, d⟩
/-- .. where the frame's own object is kept too -/
theorem Inv.un {t' : Nat} (I : Inv X pins σ H s) (u : Un X.fs [] H H' s.heap h') (hok : HOk X.prog X.w H' h') : Inv X pins σ H' { s with heap := h', toks := t' } := by
  obtain ⟨m, ⟨o, es, ep, ho, r⟩, _⟩ := id I.loc
  obtain ⟨sl, hL⟩ := u.any ho I.free (by simp)
  exact I.step (g' := s.gens) (d' := s.drawn) (ch := []) (fun _ z => nomatch z) (fun b o _ hb _ e n => u.keep b o e n hb (by simp)) (fun b o _ hb _ e n => u.slot b o e n hb (by simp)) (fun b o _ e n => u.free b o e n (by simp)) (fun b o _ e => u.there b o e (by simp)) u.tups u.frzs u.tbls (fun m' hm => by
    obtain ⟨o', es', ep', ho', r'⟩ := hm
    rw [ho] at ho'; cases ho'
    exact ⟨_, es', ep', hL, r'⟩) hok I.bare
/-- behind a call (or a comprehension's block): the slots of this frame may have changed too, the records at ch may have turned -/
theorem Inv.call {g' : Array GenState} {t' : Nat} {d' : Drawn} {ch : List Addr} (I : Inv X pins σ H s) (u : Un (frs X.stack) ch H H' s.heap h') (hok : HOk X.prog X.w H' h') (hg : AllBare g')
    (hch : ∀ b ∈ ch, (b ∈ X.ex ∨ X.s₀.heap.objs.size ≤ b) ∧ b ≠ X.env.locals ∧ (∀ x c, X.env.cells.lookup x = some c → c ≠ b) ∧ ∀ p ∈ X.pn ++ pins, p.1 ≠ b) :
    Inv X pins σ H' { s with heap := h', gens := g', drawn := d', toks := t' } := by
  obtain ⟨m, ⟨o, es, ep, ho, r⟩, _⟩ := id I.loc
  obtain ⟨sl, hL⟩ := u.any ho I.free fun z => (hch _ z).2.1 rfl
  exact I.step (ch := ch) hch (fun b o hL hb hc e n => u.keep b o e n (fun z => (List.mem_cons.mp (I.stkSub b z)).elim hL hb) hc) (fun b o _ _ hc e n => u.any e n hc) (fun b o hc e n => u.free b o e n hc) (fun b o hc e => u.there b o e hc) u.tups u.frzs u.tbls (fun m' hm => by
    obtain ⟨o', es', ep', ho', r'⟩ := hm
    rw [ho] at ho'; cases ho'
    exact ⟨_, es', ep', hL, r'⟩) hok hg
/-- an untracked record of ours (an iterator) has turned -/
theorem Inv.turned {t' : Nat} {it : Addr} (I : Inv X pins σ H s) (k : ∀ b o, b ≠ it → s.heap.get? b = some o → h'.get? b = some o) (hn : H it = none) (hL : it ≠ X.env.locals)
    (h1 : it ∈ X.ex ∨ X.s₀.heap.objs.size ≤ it) (h2 : ∀ x c, X.env.cells.lookup x = some c → c ≠ it) (h3 : ∀ p ∈ X.pn ++ pins, p.1 ≠ it) : Inv X pins σ H { s with heap := h', toks := t' } := by
  have nit : ∀ b u, H b = some u → b ≠ it := fun b u e z => by rw [z, hn] at e; cases e
  refine I.step (g' := s.gens) (d' := s.drawn) (ch := [it]) (fun b hb => ?_) (fun b o _ _ hc e _ => k b o (fun z => hc (by simp [z])) e) (fun b o _ _ hc e _ => ⟨o.slots, k b o (fun z => hc (by simp [z])) e⟩) (fun _ _ _ _ n => n)
    (fun b o hc e => ⟨o, k b o (fun z => hc (by simp [z])) e⟩) (fun _ _ e => e) (fun _ _ _ e => e) (fun b ps e => ⟨#[], by rw [e]; simp⟩) (fun m hm => ?_) (fun b u e => ?_) I.bare
  · have e : b = it := by simpa using hb
    subst e
    exact ⟨h1, hL, h2, h3⟩
  · obtain ⟨o, es, ep, ho, r⟩ := hm
    exact ⟨o, es, ep, k _ o (Ne.symm hL) ho, r⟩
  · refine (I.hok b u e).stay (fun c v hc q => k c v ?_ q) (fun _ q => q) fun _ _ q => q
    rcases hc with z | z
    · rw [z]; exact nit b u e
    · exact nit c _ z
theorem Inv.tok (I : Inv X pins σ H s) (t : Nat) : Inv X pins σ H { s with toks := t } := I.un (h' := s.heap) (t' := t) Un.refl I.hok
/-- all objects kept -/
theorem Inv.kept {t' : Nat} (I : Inv X pins σ H s) (k : ∀ b u, s.heap.get? b = some u → h'.get? b = some u) : Inv X pins σ H { s with heap := h', toks := t' } := I.un (Un.kept k) (I.hok.kept k)
/-- a new object laid and tracked -/
theorem Inv.laid {a : Addr} {o : HO} {t' : Nat} (I : Inv X pins σ H s) (k : ∀ b u, s.heap.get? b = some u → h'.get? b = some u) (hp : s.heap.objs.size ≤ a) (new : ObjOk X.prog X.w (upd H a o) h' a o) :
    Inv X pins σ (upd H a o) { s with heap := h', toks := t' } := I.un (Un.laid k hp (I.hok.fresh hp)) (I.hok.laid k hp new)
/-- an object written -/
theorem Inv.write {x e : Addr} {o : HO} {t' : Nat} (I : Inv X pins σ H s) (mu : Mut (H x)) (he : e = x ∨ H e = some (.own x)) (k : ∀ b u, b ≠ e → s.heap.get? b = some u → h'.get? b = some u) (heo : ∃ u, h'.get? e = some u)
    (new : ObjOk X.prog X.w (upd H x o) h' x o) : Inv X pins σ (upd H x o) { s with heap := h', toks := t' } := I.un (Un.write mu he k heo) (I.hok.write mu he k heo new)
/-- forgetting slots, pins -/
theorem Inv.weak {σ' : List (Option V)} (I : Inv X pins σ H s) (hl : σ'.length = σ.length) (w : ∀ (i : Nat) v, σ'[i]? = some (some v) → σ[i]? = some (some v)) : Inv X pins σ' H s :=
  ⟨I.ok, I.os, I.bare, I.base, let ⟨m, hn, hl'⟩ := I.loc; ⟨m, hn, fun i x v e1 e2 e3 => hl' i x v e1 (w i v e2) e3⟩, I.cell, I.free, I.freeC, I.pin, I.hok, hl.trans I.len⟩
theorem Inv.pins_of {pins' : List (Addr × Obj)} (I : Inv X pins σ H s) (h : ∀ p ∈ pins', s.heap.get? p.1 = some p.2 ∧ H p.1 = none ∧ p.1 ≠ X.env.locals ∧ p.1 ∉ X.fs ∧ ∀ v, p.2.data ≠ .cell v) : Inv X pins' σ H s :=
  ⟨I.ok, I.os, I.bare, I.base, I.loc, I.cell, I.free, I.freeC, fun p hp => (List.mem_append.mp hp).elim (fun z => I.pin p (List.mem_append_left _ z)) (h p), I.hok, I.len⟩

theorem nodup_ix {N : List Str} (hN : N.Nodup) {i j : Nat} {x : Str} (a : N[i]? = some x) (b : N[j]? = some x) : i = j := by
  obtain ⟨h1, e1⟩ := List.getElem?_eq_some_iff.mp a
  obtain ⟨h2, e2⟩ := List.getElem?_eq_some_iff.mp b
  exact (List.getElem_inj hN).mp (e1.trans e2.symm)

/-- a name is stored; what changed -/
theorem store_ok2 {M : Model} {A : Around} {E : Value → Shared → Prop} {i : Nat} {x : Str} {v : V} {u : Value} {Q : Unit → Shared → Prop} (I : Inv X pins σ H s) (hN : X.N.Nodup) (hi : X.N[i]? = some x) (hx : Loc X.env.scope x) (r : RelV v u)
    (h : ∀ s', Inv X pins (σ.set i (some v)) H s' → (∃ a, Heap.SameBut a s.heap s'.heap ∧ (a = X.env.locals ∨ X.env.cells.lookup x = some a)) → Q () s') (hf : X.fn x = true ∨ X.env.scope.names.lookup x = some .local := by first | exact .inl rfl | exact .inr rfl | assumption) : wpAny M A (storeName X.env x u) Q E s := by
  obtain ⟨m, hn, hl⟩ := id I.loc
  have hcls : (X.env.scope.kind == .class || (X.env.scope.kind == .module && X.env.locals != X.env.globals)) = false := by rw [I.ok.kind]; rfl
  have hiσ : i < σ.length := by rw [I.len]; exact (List.getElem?_eq_some_iff.mp hi).1
  have cne := I.cne
  have tracked : ∀ {a : Addr} {h' : Heap}, (∃ o, s.heap.get? a = some o ∧ H a = none) → Heap.SameBut a s.heap h' → HOk X.prog X.w H h' := fun {a h'} ha hs b ob e => by
    obtain ⟨_, _, hfree⟩ := ha
    refine (I.hok b ob e).stay (fun c w' hc q => (hs.2 c ?_).trans q) (fun _ q => q) fun _ _ q => q
    rintro rfl
    rcases hc with rfl | hc
    · rw [hfree] at e; cases e
    · rw [hfree] at hc; cases hc
  rcases hx with hk | hk
  · refine wpAny_storeName_local hk hn (fun h' hn' hs => ?_) hcls
    obtain ⟨oL, _, _, hoL, _⟩ := id hn
    refine h _ ⟨I.ok, I.os, I.bare, ⟨fun b o e n hb hx => ?_, fun b o e n hb hx => ?_, I.base.free, fun b o e hx => ?_, I.base.tups, I.base.frzs, I.base.tbls⟩, ⟨_, hn', fun j y v' e1 e2 e3 => ?_⟩, fun y c e => ?_, I.free, I.freeC, fun p hp => ?_, tracked ⟨oL, hoL, I.free⟩ hs, by simpa using I.len⟩ ⟨_, hs, .inl rfl⟩
    · exact (hs.2 b (Nat.ne_of_lt (Nat.lt_of_lt_of_le (Heap.lt_size e) I.ok.above))).trans (I.base.keep b o e n hb hx)
    · obtain ⟨sl, e1⟩ := I.base.slot b o e n hb hx
      exact ⟨sl, (hs.2 b (Nat.ne_of_lt (Nat.lt_of_lt_of_le (Heap.lt_size e) I.ok.above))).trans e1⟩
    · obtain ⟨o', e1⟩ := I.base.there b o e hx
      exact ⟨o', (hs.2 b (Nat.ne_of_lt (Nat.lt_of_lt_of_le (Heap.lt_size e) I.ok.above))).trans e1⟩
    · by_cases hj : j = i
      · subst hj
        rw [hi] at e1; cases e1
        rw [List.getElem?_set_self hiσ] at e2
        cases e2
        exact ⟨u, r, .inl ⟨hk, by simp⟩⟩
      · rw [List.getElem?_set_ne (Ne.symm hj)] at e2
        obtain ⟨u', r', q⟩ := hl j y v' e1 e2 e3
        refine ⟨u', r', ?_⟩
        rcases q with ⟨k, e⟩ | ⟨k, c, e, z⟩
        · refine .inl ⟨k, ?_⟩
          have : y ≠ x := fun e => hj (nodup_ix hN e1 (e ▸ hi))
          simp [this, e]
        · exact .inr ⟨k, c, e, z.sameBut hs (cne y c e)⟩
    · obtain ⟨w', z⟩ := I.cell y c e
      exact ⟨w', z.sameBut hs (cne y c e)⟩
    · obtain ⟨e, n, ne, nf, d⟩ := I.pin p hp
      exact ⟨(hs.2 p.1 ne).trans e, n, ne, nf, d⟩
  · have hfn : X.fn x = true := by
      rcases hf with z | z
      · exact z
      · rw [z] at hk; cases hk
    obtain ⟨c, hc⟩ := I.ok.has x (.inl hk)
    obtain ⟨w', z⟩ := I.cell x c hc
    refine wpAny_storeName_cell I.ok.kind hk hc z (fun h' hc' hs => ?_)
    obtain ⟨oc, hoc, hocd⟩ := id z
    refine h { s with heap := h' } ⟨I.ok, I.os, I.bare, ⟨fun b o e n hb hx => ?_, fun b o e n hb hx => ?_, I.base.free, fun b o e hx => ?_, I.base.tups, I.base.frzs, I.base.tbls⟩, ⟨m, hn.sameBut hs (Ne.symm (cne x c hc)), fun j y v' e1 e2 e3 => ?_⟩, fun y c' e => ?_, I.free, I.freeC, fun p hp => ?_, tracked ⟨oc, hoc, I.freeC x c hc⟩ hs, by simpa using I.len⟩ ⟨c, hs, .inr hc⟩
    · exact (hs.2 b (Nat.ne_of_lt (Nat.lt_of_lt_of_le (Heap.lt_size e) (I.ok.cab x c hfn hc)))).trans (I.base.keep b o e n hb hx)
    · obtain ⟨sl, e1⟩ := I.base.slot b o e n hb hx
      exact ⟨sl, (hs.2 b (Nat.ne_of_lt (Nat.lt_of_lt_of_le (Heap.lt_size e) (I.ok.cab x c hfn hc)))).trans e1⟩
    · obtain ⟨o', e1⟩ := I.base.there b o e hx
      exact ⟨o', (hs.2 b (Nat.ne_of_lt (Nat.lt_of_lt_of_le (Heap.lt_size e) (I.ok.cab x c hfn hc)))).trans e1⟩
    · by_cases hj : j = i
      · subst hj
        rw [hi] at e1; cases e1
        rw [List.getElem?_set_self hiσ] at e2
        cases e2
        exact ⟨u, r, .inr ⟨.inl hk, c, hc, hc'⟩⟩
      · rw [List.getElem?_set_ne (Ne.symm hj)] at e2
        obtain ⟨u', r', q⟩ := hl j y v' e1 e2 e3
        refine ⟨u', r', ?_⟩
        rcases q with q | ⟨k, c', e, z'⟩
        · exact .inl q
        · refine .inr ⟨k, c', e, z'.sameBut hs ?_⟩
          rintro rfl
          exact hj (nodup_ix hN e1 (I.ok.inj _ _ _ e hc ▸ hi))
    · by_cases hcc : c' = c
      · subst hcc; exact ⟨_, hc'⟩
      · obtain ⟨w2, z2⟩ := I.cell y c' e
        exact ⟨w2, z2.sameBut hs hcc⟩
    · obtain ⟨e, n, ne, nf, d⟩ := I.pin p hp
      refine ⟨(hs.2 p.1 ?_).trans e, n, ne, nf, d⟩
      intro q
      rw [q, hoc] at e
      have q' : oc = p.2 := Option.some.inj e
      exact d w' (by rw [← q']; exact hocd)
theorem store_ok {M : Model} {A : Around} {E : Value → Shared → Prop} {i : Nat} {x : Str} {v : V} {u : Value} {Q : Unit → Shared → Prop} (I : Inv X pins σ H s) (hN : X.N.Nodup) (hi : X.N[i]? = some x) (hx : Loc X.env.scope x) (r : RelV v u)
    (h : ∀ s', Inv X pins (σ.set i (some v)) H s' → Q () s') (hf : X.fn x = true ∨ X.env.scope.names.lookup x = some .local := by first | exact .inl rfl | exact .inr rfl | assumption) : wpAny M A (storeName X.env x u) Q E s :=
  store_ok2 I hN hi hx r (fun s' I' _ => h s' I') hf
/-- behind a call or a block, the state as it is -/
theorem Inv.call' {s' : Shared} {ch : List Addr} (I : Inv X pins σ H s) (ho : s'.os = s.os) (u : Un (frs X.stack) ch H H' s.heap s'.heap) (hok : HOk X.prog X.w H' s'.heap) (hg : AllBare s'.gens)
    (hch : ∀ b ∈ ch, (b ∈ X.ex ∨ X.s₀.heap.objs.size ≤ b) ∧ b ≠ X.env.locals ∧ (∀ x c, X.env.cells.lookup x = some c → c ≠ b) ∧ ∀ p ∈ X.pn ++ pins, p.1 ≠ b) : Inv X pins σ H' s' := by
  obtain ⟨h', g', d', t', o'⟩ := s'
  have e : o' = s.os := ho
  subst e
  exact I.call (g' := g') (t' := t') (d' := d') u hok hg hch
end

/-! ### the judgements -/
/-- an exception: its class, its own dict's address (where it has one), the abstract heap behind it -/
abbrev XK := Value → Option Addr → Hp → Prop
abbrev St := List (Option V)
abbrev VK := V → Hp → Prop
/-- an expression's reading; a test's; an argument list's -/
abbrev TE := St → Hp → VK → Prop
abbrev TT := St → Hp → (Bool → Hp → Prop) → Prop
abbrev TA := St → Hp → (List V → Hp → Prop) → Prop
/-- what is wanted behind a statement -/
structure Ends where
  nx : St → Hp → Prop
  rt : VK
  bk : St → Hp → Prop := fun _ _ => False
  ct : St → Hp → Prop := fun _ _ => False
abbrev TS := Ends → St → Hp → Prop

def EP (X : Cx) (pins : List (Addr × Obj)) (σ : St) (Q : VK) (u : Value) (s' : Shared) : Prop := ∃ v H', Inv X pins σ H' s' ∧ RelV v u ∧ Q v H'
def TP (X : Cx) (pins : List (Addr × Obj)) (σ : St) (Q : Bool → Hp → Prop) (b : Bool) (s' : Shared) : Prop := ∃ H', Inv X pins σ H' s' ∧ Q b H'
def AP (X : Cx) (pins : List (Addr × Obj)) (σ : St) (Q : List V → Hp → Prop) (us : List Value) (s' : Shared) : Prop := ∃ vs H', Inv X pins σ H' s' ∧ Vals vs us ∧ Q vs H'
def SP (X : Cx) (pins : List (Addr × Obj)) (D : Ends) (f : Flow) (s' : Shared) : Prop :=
  match f with
  | .next => ∃ σ' H', Inv X pins σ' H' s' ∧ D.nx σ' H'
  | .brk => ∃ σ' H', Inv X pins σ' H' s' ∧ D.bk σ' H'
  | .cont => ∃ σ' H', Inv X pins σ' H' s' ∧ D.ct σ' H'
  | .ret u => ∃ v σ' H', Inv X pins σ' H' s' ∧ RelV v u ∧ D.rt v H'

def PE (X : Cx) (e : Expr) (t : TE) : Prop :=
  ∀ (pins : List (Addr × Obj)) (s : Shared) (σ : St) (H : Hp) (Q : VK), Inv X pins σ H s → t σ H Q → wpAny (model X.prog X.w) X.A (eval e X.env) (EP X pins σ Q) X.xe s
def PT (X : Cx) (e : Expr) (t : TT) : Prop :=
  ∀ (pins : List (Addr × Obj)) (s : Shared) (σ : St) (H : Hp) (Q : Bool → Hp → Prop), Inv X pins σ H s → t σ H Q → wpAny (model X.prog X.w) X.A (isTrue e X.env (eval e X.env)) (TP X pins σ Q) X.xe s
/-- a test whatever its 'whole' is (and, or) -/
def PW (X : Cx) (e : Expr) (t : TT) : Prop :=
  ∀ (whole : Sem Value) (pins : List (Addr × Obj)) (s : Shared) (σ : St) (H : Hp) (Q : Bool → Hp → Prop), Inv X pins σ H s → t σ H Q → wpAny (model X.prog X.w) X.A (isTrue e X.env whole) (TP X pins σ Q) X.xe s
theorem PW.pt {X : Cx} {e : Expr} {t : TT} (h : PW X e t) : PT X e t := h _
/-- an argument list (no star), from the left -/
def PA (X : Cx) (es : List Expr) (t : TA) : Prop :=
  ∀ (pos : Pos) (pins : List (Addr × Obj)) (s : Shared) (σ : St) (H : Hp) (Q : List V → Hp → Prop), Inv X pins σ H s → t σ H Q → wpAny (model X.prog X.w) X.A (spliced (backTo pos (starEach es X.env))) (AP X pins σ Q) X.xe s
def PS (X : Cx) (st : Stmt) (t : TS) : Prop :=
  ∀ (pins : List (Addr × Obj)) (s : Shared) (σ : St) (H : Hp) (D : Ends), Inv X pins σ H s → t D σ H → wpAny (model X.prog X.w) X.A (exec st X.env) (SP X pins D) X.xe s
def PSs (X : Cx) (st : List Stmt) (t : TS) : Prop :=
  ∀ (pins : List (Addr × Obj)) (s : Shared) (σ : St) (H : Hp) (D : Ends), Inv X pins σ H s → t D σ H → wpAny (model X.prog X.w) X.A (execs st X.env) (SP X pins D) X.xe s
/-- weaken the end -/
theorem thn {α : Type} {t : Sem α} {Q Q' : α → Shared → Prop} {M : Model} {A : Around} {E : Value → Shared → Prop} {s : Shared} (h : wpAny M A t Q E s) (hQ : ∀ a s, Q a s → Q' a s) : wpAny M A t Q' E s := wpAny_mono h hQ fun _ _ x => x
end L2

namespace L2
open PySem PySem.Spec PyProof.Rows
section
variable {X : Cx}

/-- two expressions in a row -/
theorem bin {a b : Expr} {ta tb : TE} (ha : PE X a ta) (hb : PE X b tb) {pins : List (Addr × Obj)} {s : Shared} {σ : St} {H : Hp} {R : V → V → Hp → Prop} (I : Inv X pins σ H s) (h : ta σ H fun x H1 => tb σ H1 fun y H2 => R x y H2)
    {α : Type} {Q : α → Shared → Prop} {f : Value → Value → Sem α}
    (hf : ∀ v u s2 x y H2, Inv X pins σ H2 s2 → RelV x v → RelV y u → R x y H2 → wpAny (model X.prog X.w) X.A (f v u) Q X.xe s2) :
    wpAny (model X.prog X.w) X.A (eval a X.env) (fun v s₁ => wpAny (model X.prog X.w) X.A (eval b X.env) (fun u s₂ => wpAny (model X.prog X.w) X.A (f v u) Q X.xe s₂) X.xe s₁) X.xe s := by
  refine thn (ha pins s σ H _ I h) fun v s1 ⟨x, H1, I1, r1, q1⟩ => ?_
  refine thn (hb pins s1 σ H1 _ I1 q1) fun u s2 ⟨y, H2, I2, r2, q2⟩ => ?_
  exact hf v u s2 x y H2 I2 r1 r2 q2

/-! ### names and constants -/
def tVar (i : Nat) : TE := fun σ H Q => ∃ v, σ[i]? = some (some v) ∧ Q v H
def tC (v : V) : TE := fun _ H Q => Q v H
theorem pe_var {i : Nat} {x : Str} {pos : Pos} (hN : X.N[i]? = some x) (hv : Vis X.env.scope x) (hd : (x == ("__debug__" : Str)) = false := by decide) (hcd : (x == ("__classdict__" : Str)) = false := by decide) : PE X (.Name x pos) (tVar i) := by
  intro pins s σ H Q I h
  obtain ⟨v, e, h⟩ := h
  obtain ⟨m, hn, hl⟩ := I.loc
  obtain ⟨u, r, l⟩ := hl i x v hN e hv
  have fin : EP X pins σ Q u s := ⟨v, H, I, r, h⟩
  rcases l with ⟨hk, hm⟩ | ⟨hk, c, hc, hcell⟩
  · exact wpAny_Name (wpAny_loadName_local I.ok.kind hk hn hm fin) hd
  · rcases hk with hk | hk
    · exact wpAny_Name (wpAny_loadName_cell I.ok.kind hk hc hcell fin) hd
    · exact wpAny_Name (wpAny_loadName_free I.ok.kind hk hc hcell fin hcd) hd
theorem pe_int {i j pos} : PE X (.Constant (.int i) j pos) (tC (.int i)) := fun _ _ _ H _ I h => wpAny_Constant_int ⟨.int i, H, I.tok _, ⟨_, rfl⟩, h⟩
theorem pe_bl {b j pos} : PE X (.Constant (.bool b) j pos) (tC (.bl b)) := fun _ _ _ H _ I h => Constant_bool ⟨.bl b, H, I, rfl, h⟩
theorem pe_non {j pos} : PE X (.Constant .none j pos) (tC .non) := fun _ _ _ H _ I h => Constant_none ⟨.non, H, I, rfl, h⟩
theorem pe_str {x j pos} : PE X (.Constant (.str x) j pos) (tC (.str x)) := fun _ _ _ H _ I h => Calls.Constant_str ⟨.str x, H, I.tok _, ⟨_, rfl⟩, h⟩

/-- a global name of the def -/
def Gl (X : Cx) (x : Str) : Prop := X.env.kindOf x = some .globalImplicit
theorem ld_glob {E : Value → Shared → Prop} {pins : List (Addr × Obj)} {s : Shared} {σ : St} {H : Hp} {x : Str} {u : Value} {pos : Pos} {Q : Value → Shared → Prop} (I : Inv X pins σ H s) (hg : Gl X x) (hm : X.mg x = some u) (h : Q u s)
    (hd : (x == ("__debug__" : Str)) = false := by decide) : wpAny (model X.prog X.w) X.A (eval (.Name x pos) X.env) Q E s :=
  Calls.Name_function_global I.ok.kind hg (Calls.loadGlobal_global (by rw [I.ok.glob]; exact I.mod.glob.keeps I.bk) hm h) hd
theorem ld_blt {E : Value → Shared → Prop} {pins : List (Addr × Obj)} {s : Shared} {σ : St} {H : Hp} {x : Str} {u : Value} {pos : Pos} {Q : Value → Shared → Prop} (I : Inv X pins σ H s) (hg : Gl X x) (hm : X.mg x = none) (hv : bootBuiltins x = some u) (h : Q u s)
    (hn : x ≠ "__name__" := by decide) (hd : (x == ("__debug__" : Str)) = false := by decide) : wpAny (model X.prog X.w) X.A (eval (.Name x pos) X.env) Q E s := by
  obtain ⟨mb, h1, h2⟩ := I.mod.blt
  exact Calls.Name_function_global I.ok.kind hg (Calls.loadGlobal_builtin (by rw [I.ok.glob]; exact I.mod.glob.keeps I.bk) hm (by rw [I.ok.blt]; exact h1.keeps I.bk) ((h2 x hn).trans hv) h) hd
/-- a module's constant, a class, a function, as a value -/
theorem pe_glob {x : Str} {v : V} {u : Value} {pos : Pos} (hg : Gl X x) (hm : X.mg x = some u) (r : RelV v u) (hd : (x == ("__debug__" : Str)) = false := by decide) : PE X (.Name x pos) (tC v) :=
  fun _ _ _ H _ I h => ld_glob I hg hm ⟨v, H, I, r, h⟩ hd
theorem pe_bltn {x : Str} {v : V} {u : Value} {pos : Pos} (hg : Gl X x) (hm : X.mg x = none) (hv : bootBuiltins x = some u) (r : RelV v u) (hn : x ≠ "__name__" := by decide) (hd : (x == ("__debug__" : Str)) = false := by decide) : PE X (.Name x pos) (tC v) :=
  fun _ _ _ H _ I h => ld_blt I hg hm hv ⟨v, H, I, r, h⟩ hn hd

/-! ### arithmetic -/
variable {a b : Expr} {ta tb : TE} {pos : Pos}

/-! ### comparisons -/
def PC (X : Cx) (op : CmpOp) (a b : Expr) (t : TE) : Prop :=
  ∀ (pins : List (Addr × Obj)) (s : Shared) (σ : St) (H : Hp) (Q : VK), Inv X pins σ H s → t σ H Q →
    wpAny (model X.prog X.w) X.A (eval a X.env) (fun v s₁ => wpAny (model X.prog X.w) X.A (eval b X.env) (fun u s₂ => wpAny (model X.prog X.w) X.A (compareOp op v u) (EP X pins σ Q) X.xe s₂) X.xe s₁) X.xe s
/-- a comparison as a value, as a test -/
def tB (t : TE) : TT := fun σ H Q => t σ H fun x H1 => ∃ c, x = .bl c ∧ Q c H1
theorem pt_cmp {op : CmpOp} {t : TE} (h : PC X op a b t) (h1 : behindInMarks op b = false := by first | exact nobehind _ (by decide) (by decide) | rfl) : PT X (.Compare a [op] [b] pos) (tB t) := by
  intro pins s σ H Q I hw
  refine wpAny_isTrue_Compare1 (thn (h pins s σ H _ I hw) fun v s1 h1 => thn h1 fun u s2 h2 => thn h2 fun c s3 ⟨x, H1, I1, r1, q1⟩ => ?_) h1
  obtain ⟨d, rfl, q⟩ := q1
  cases r1
  exact wpAny_truthy_bool ⟨H1, I1, q⟩
/-- an expression whose value is a bool, as a test -/
theorem pt_val {e : Expr} {t : TE} (h : PE X e t) (he : ∀ whole, isTrue e X.env whole = (do let v ← whole; standAt e.pos; holding [v] (truthy v)) := by intro _; rfl) : PT X e (tB t) := by
  intro pins s σ H Q I hw
  refine isTrue_plain (thn (h pins s σ H _ I hw) fun v s1 ⟨x, H1, I1, r1, q1⟩ => ?_) (he _)
  obtain ⟨d, rfl, q⟩ := q1
  cases r1
  exact wpAny_truthy_bool ⟨H1, I1, q⟩

/-! ### and, or, not -/
variable {tA tB' : TT} {rest : List Expr}
def tAnd (t u : TT) : TT := fun σ H Q => t σ H fun c H1 => if c = true then u σ H1 Q else Q false H1
def tOr (t u : TT) : TT := fun σ H Q => t σ H fun c H1 => if c = true then Q true H1 else u σ H1 Q
def tNot (t : TT) : TT := fun σ H Q => t σ H fun c H1 => Q (!c) H1
theorem pw_and1 (ha : PT X a tA) : PW X (.BoolOp .And [a] pos) tA := by
  intro wh pins s σ H Q I h
  refine isTrue_and (thn (ha pins s σ H Q I h) fun c s1 e => ?_)
  cases c with
  | true => exact isTrue_and_nil e
  | false => exact e
theorem pw_or1 (ha : PT X a tA) : PW X (.BoolOp .Or [a] pos) tA := by
  intro wh pins s σ H Q I h
  refine isTrue_or (thn (ha pins s σ H Q I h) fun c s1 e => ?_)
  cases c with
  | false => exact isTrue_or_nil e
  | true => exact e
theorem pw_and (ha : PT X a tA) (hb : PW X (.BoolOp .And (b :: rest) pos) tB') : PW X (.BoolOp .And (a :: b :: rest) pos) (tAnd tA tB') := by
  intro wh pins s σ H Q I h
  refine isTrue_and (thn (ha pins s σ H _ I h) fun c s1 ⟨H1, I1, q1⟩ => ?_)
  cases c with
  | true => exact hb wh pins s1 σ H1 Q I1 q1
  | false => exact ⟨H1, I1, q1⟩
theorem pw_or (ha : PT X a tA) (hb : PW X (.BoolOp .Or (b :: rest) pos) tB') : PW X (.BoolOp .Or (a :: b :: rest) pos) (tOr tA tB') := by
  intro wh pins s σ H Q I h
  refine isTrue_or (thn (ha pins s σ H _ I h) fun c s1 ⟨H1, I1, q1⟩ => ?_)
  cases c with
  | true => exact ⟨H1, I1, q1⟩
  | false => exact hb wh pins s1 σ H1 Q I1 q1
theorem pt_not (ha : PT X a tA) : PT X (.UnaryOp .Not a pos) (tNot tA) := by
  intro pins s σ H Q I h
  exact isTrue_not (ha pins s σ H (fun c H1 => Q (!c) H1) I h)
/-- .. as values (bools) -/
def tAndV (ta tb : TE) : TE := fun σ H Q => ta σ H fun x H1 => ∃ c, x = .bl c ∧ if c = true then tb σ H1 Q else Q (.bl false) H1
def tOrV (ta tb : TE) : TE := fun σ H Q => ta σ H fun x H1 => ∃ c, x = .bl c ∧ if c = true then Q (.bl true) H1 else tb σ H1 Q
def tNotV (ta : TE) : TE := fun σ H Q => ta σ H fun x H1 => ∃ c, x = .bl c ∧ Q (.bl (!c)) H1
theorem pe_one {op} {t : TE} (h : PE X a t) : PE X (.BoolOp op [a] pos) t := fun pins s σ H Q I hw => BoolOp_one (h pins s σ H Q I hw)
theorem pe_and (ha : PE X a ta) (hb : PE X (.BoolOp .And (b :: rest) pos) tb) : PE X (.BoolOp .And (a :: b :: rest) pos) (tAndV ta tb) := by
  intro pins s σ H Q I h
  refine BoolOp_and (thn (ha pins s σ H _ I h) fun v s1 ⟨x, H1, I1, r1, q1⟩ => ?_)
  obtain ⟨c, rfl, q1⟩ := q1
  cases r1
  refine wpAny_truthy_bool ?_
  cases c with
  | true => exact hb pins s1 σ H1 Q I1 q1
  | false => exact ⟨.bl false, H1, I1, rfl, q1⟩
theorem pe_or (ha : PE X a ta) (hb : PE X (.BoolOp .Or (b :: rest) pos) tb) : PE X (.BoolOp .Or (a :: b :: rest) pos) (tOrV ta tb) := by
  intro pins s σ H Q I h
  refine BoolOp_or (thn (ha pins s σ H _ I h) fun v s1 ⟨x, H1, I1, r1, q1⟩ => ?_)
  obtain ⟨c, rfl, q1⟩ := q1
  cases r1
  refine wpAny_truthy_bool ?_
  cases c with
  | false => exact hb pins s1 σ H1 Q I1 q1
  | true => exact ⟨.bl true, H1, I1, rfl, q1⟩
theorem pe_not (ha : PE X a ta) : PE X (.UnaryOp .Not a pos) (tNotV ta) := by
  intro pins s σ H Q I h
  refine UnaryOp_ (thn (ha pins s σ H _ I h) fun v s1 ⟨x, H1, I1, r1, q1⟩ => ?_)
  obtain ⟨c, rfl, q1⟩ := q1
  cases r1
  exact not_of (wpAny_truthy_bool ⟨.bl (!c), H1, I1, rfl, q1⟩)
end
end L2

namespace L2
open PySem PySem.Spec PyProof.Rows

/-! ### a list, a tuple that is read: tracked, frozen, or an object of the module -/
def SqL (K : PySem.W.Frag) (H : Hp) (a : Addr) (xs : List V) : Prop :=
  Rd H a (.lst xs) ∨
    ∃ (o : Obj) (its : Array Value) (n : Nat), K.lookup a = some o ∧ o.cls = .type "list" ∧ o.dict = none ∧ o.data = .seq its n ∧ its.size ≤ sizeLine ∧ Vals xs its.toList
def SqT (K : PySem.W.Frag) (H : Hp) (a : Addr) (xs : List V) : Prop :=
  Rd H a (.tup xs) ∨
    ∃ (o : Obj) (its : Array Value) (n : Nat), K.lookup a = some o ∧ o.cls = .type "tuple" ∧ o.data = .seq its n ∧ its.size ≤ sizeLine ∧ Vals xs its.toList
def absV : Value → Option V
  | .none => some .non
  | .bool b => some (.bl b)
  | .int i _ => some (.int i)
  | .str x _ => some (.str x)
  | .bytes b _ => some (.byt b)
  | .float b _ => some (.flt b)
  | .ref a => some (.ref a)
  | .type n => some (.ty n)
  | _ => none
theorem RelV.abs {x : V} {u : Value} (r : RelV x u) : absV u = some x := by
  cases x with
  | non => cases r; rfl
  | bl _ => cases r; rfl
  | int _ => obtain ⟨t, rfl⟩ := r; rfl
  | str _ => obtain ⟨t, rfl⟩ := r; rfl
  | byt _ => obtain ⟨t, rfl⟩ := r; rfl
  | flt _ => obtain ⟨t, rfl⟩ := r; rfl
  | ref _ => cases r; rfl
  | ty _ => cases r; rfl
theorem RelV.inj {x y : V} {u : Value} (r : RelV x u) (q : RelV y u) : x = y := Option.some.inj (r.abs.symm.trans q.abs)
theorem Vals.inj : ∀ {xs ys : List V} {us : List Value}, Vals xs us → Vals ys us → xs = ys
  | _, _, _, .nil, .nil => rfl
  | _, _, _, .cons r t, .cons r' t' => by rw [r.inj r', Vals.inj t t']
section
variable {X : Cx} {pins : List (Addr × Obj)} {σ : St} {H : Hp} {s : Shared} {a : Addr} {xs ys : List V}
theorem SqL.of {K : PySem.W.Frag} (h : H a = some (.lst xs)) : SqL K H a xs := .inl (.inl h)
theorem SqT.of {K : PySem.W.Frag} (h : H a = some (.tup xs)) : SqT K H a xs := .inl (.inl h)
theorem Inv.list (I : Inv X pins σ H s) (h : SqL X.K H a xs) : ∃ its : List Value, Vals xs its ∧ PlainL s.heap a its.toArray ∧ xs.length ≤ sizeLine := by
  rcases h with h | ⟨o, its, n, hk, hc, hd, hs, hz, r⟩
  · obtain ⟨z, its, n, r, e⟩ := h.ok I.hok
    exact ⟨its, r, ⟨_, n, e, rfl, rfl, rfl⟩, z⟩
  · refine ⟨its.toList, r, ⟨o, n, I.kIn a o hk, hc, hd, by simpa using hs⟩, ?_⟩
    have e := r.length
    simp only [Array.length_toList] at e
    omega
theorem Inv.tuple (I : Inv X pins σ H s) (h : SqT X.K H a xs) : ∃ its : List Value, Vals xs its ∧ IsTup s.heap a its.toArray ∧ xs.length ≤ sizeLine := by
  rcases h with h | ⟨o, its, n, hk, hc, hs, hz, r⟩
  · obtain ⟨z, its, r, p⟩ := h.ok I.hok
    exact ⟨its, r, p, z⟩
  · refine ⟨its.toList, r, ⟨o, I.kIn a o hk, hc, n, by simpa using hs⟩, ?_⟩
    have e := r.length
    simp only [Array.length_toList] at e
    omega
theorem Inv.list_inj (I : Inv X pins σ H s) (h : SqL X.K H a xs) (h' : SqL X.K H a ys) : xs = ys := by
  obtain ⟨its, r, ⟨o, n, e, _, _, d⟩, _⟩ := I.list h
  obtain ⟨its', r', ⟨o', n', e', _, _, d'⟩, _⟩ := I.list h'
  rw [e] at e'; cases e'
  rw [d] at d'
  injection d' with d1 _
  have : its = its' := by simpa using congrArg Array.toList d1
  subst this
  exact r.inj r'
end

/-! ### another wish about exceptions -/
abbrev Cx.wish (X : Cx) (E : Value → Shared → Prop) : Cx := { X with xe := E }
/-- no exception leaves -/
abbrev Cx.nox (X : Cx) : Cx := X.wish fun _ _ => False
theorem Cx.Ok.wish {X : Cx} (ok : X.Ok) (E : Value → Shared → Prop) : (X.wish E).Ok :=
  ⟨ok.mod, ok.kind, ok.glob, ok.blt, ok.above, ok.inj, ok.has, ok.cab, ok.hd, ok.frames, ok.stk, ok.exf, ok.bs, ok.bsz, ok.noex, ok.exfs, ok.funs, ok.frf⟩
theorem Cx.Ok.unwish {X : Cx} {E : Value → Shared → Prop} (ok : (X.wish E).Ok) : X.Ok :=
  ⟨ok.mod, ok.kind, ok.glob, ok.blt, ok.above, ok.inj, ok.has, ok.cab, ok.hd, ok.frames, ok.stk, ok.exf, ok.bs, ok.bsz, ok.noex, ok.exfs, ok.funs, ok.frf⟩
section
variable {X : Cx} {pins : List (Addr × Obj)} {σ : St} {H : Hp} {s : Shared} {E : Value → Shared → Prop}
theorem Inv.wish (I : Inv X pins σ H s) (E : Value → Shared → Prop) : Inv (X.wish E) pins σ H s := ⟨I.ok.wish E, I.os, I.bare, I.base, I.loc, I.cell, I.free, I.freeC, I.pin, I.hok, I.len⟩
theorem Inv.unwish (I : Inv (X.wish E) pins σ H s) : Inv X pins σ H s := ⟨I.ok.unwish, I.os, I.bare, I.base, I.loc, I.cell, I.free, I.freeC, I.pin, I.hok, I.len⟩
theorem SP.unwish {D : Ends} {f : Flow} {s' : Shared} (h : SP (X.wish E) pins D f s') : SP X pins D f s' := by
  cases f with
  | next => obtain ⟨σ', H', I, q⟩ := h; exact ⟨σ', H', I.unwish, q⟩
  | brk => obtain ⟨σ', H', I, q⟩ := h; exact ⟨σ', H', I.unwish, q⟩
  | cont => obtain ⟨σ', H', I, q⟩ := h; exact ⟨σ', H', I.unwish, q⟩
  | ret u => obtain ⟨v, σ', H', I, r, q⟩ := h; exact ⟨v, σ', H', I.unwish, r, q⟩
theorem PSs.nox {st : List Stmt} {t : TS} (h : PSs X.nox st t) : PSs X st t := fun pins s σ H D I hw =>
  wpAny_mono (h pins s σ H D (I.wish _) hw) (fun _ _ q => q.unwish) fun _ _ z => False.elim z
end

/-! ### blocks and small statements -/
section
variable {X : Cx} {st : Stmt} {rest : List Stmt} {t u : TS} {e : Expr} {te : TE} {pos : Pos}
def tNext : TS := fun D σ H => D.nx σ H
def tSeq (t u : TS) : TS := fun D σ H => t { D with nx := u D } σ H
theorem pss_nil : PSs X [] tNext := fun _ _ σ H _ I h => wpAny_execs_nil ⟨σ, H, I, h⟩
theorem pss_cons (h1 : PS X st t) (h2 : PSs X rest u) : PSs X (st :: rest) (tSeq t u) := by
  intro pins s σ H D I h
  refine wpAny_execs_cons (thn (h1 pins s σ H { D with nx := u D } I h) fun f s1 q => ?_)
  cases f with
  | next =>
    obtain ⟨σ', H', I', q⟩ := q
    exact h2 pins s1 σ' H' D I' q
  | ret v => exact q
  | brk => exact q
  | cont => exact q
theorem pss_one (h1 : PS X st t) : PSs X [st] t := by
  intro pins s σ H D I h
  refine wpAny_execs_cons (thn (h1 pins s σ H D I h) fun f s1 q => ?_)
  cases f with
  | next => exact wpAny_execs_nil q
  | ret v => exact q
  | brk => exact q
  | cont => exact q
/-- in a def's body nothing is shown -/
theorem Inv.quiet {pins : List (Addr × Obj)} {σ : St} {H : Hp} {s : Shared} (I : Inv X pins σ H s) : interactive X.env = false := by simp [interactive, I.ok.kind]
/-- an expression whose value is dropped -/
def tDrop (te : TE) : TS := fun D σ H => te σ H fun _ H1 => D.nx σ H1
theorem ps_expr (he : PE X e te) (hs : swapsWith e none pos.line X.env = pure false := by rfl) : PS X (.Expr e pos) (tDrop te) := by
  intro pins s σ H D I h
  exact wpAny_Expr_any (thn (he pins s σ H _ I h) fun v s1 ⟨x, H1, I1, r1, q1⟩ => ⟨σ, H1, I1, q1⟩) I.quiet hs
def tRet (te : TE) : TS := fun D σ H => te σ H D.rt
theorem ps_ret (he : PE X e te) : PS X (.Return (some e) pos) (tRet te) := by
  intro pins s σ H D I h
  exact wpAny_Return_some (thn (he pins s σ H _ I h) fun v s1 ⟨x, H1, I1, r1, q1⟩ => ⟨x, σ, H1, I1, r1, q1⟩)
def tIfS (c : TT) (t u : TS) : TS := fun D σ H => c σ H fun b H1 => if b = true then t D σ H1 else u D σ H1
theorem ps_if {c : Expr} {a b : List Stmt} {tc : TT} (hc : PT X c tc) (ha : PSs X a t) (hb : PSs X b u) : PS X (.If c a b pos) (tIfS tc t u) := by
  intro pins s σ H D I h
  refine wpAny_If (thn (hc pins s σ H _ I h) fun d s1 ⟨H1, I1, q1⟩ => ?_)
  cases d with
  | true => exact ha pins s1 σ H1 D I1 q1
  | false => exact hb pins s1 σ H1 D I1 q1
/-- code that the proof never comes to -/
def tNever : TS := fun _ _ _ => False
theorem pss_never {sts : List Stmt} : PSs X sts tNever := fun _ _ _ _ _ _ h => h.elim
end

/-! ### targets -/
abbrev TG := V → St → Hp → (St → Hp → Prop) → Prop
abbrev TGs := List V → St → Hp → (St → Hp → Prop) → Prop
def PG (X : Cx) (target : Expr) (t : TG) : Prop :=
  ∀ (pins : List (Addr × Obj)) (s : Shared) (σ : St) (H : Hp) (v : V) (u : Value) (Q : St → Hp → Prop), Inv X pins σ H s → RelV v u → t v σ H Q →
    wpAny (model X.prog X.w) X.A (assign target X.env u) (fun _ s' => ∃ σ' H', Inv X pins σ' H' s' ∧ Q σ' H') X.xe s
/-- several targets, one after another -/
def PGs (X : Cx) (ts : List Expr) (t : TGs) : Prop :=
  ∀ (pins : List (Addr × Obj)) (s : Shared) (σ : St) (H : Hp) (vs : List V) (us : List Value) (Q : St → Hp → Prop), Inv X pins σ H s → Vals vs us → t vs σ H Q →
    wpAny (model X.prog X.w) X.A (assignInOrder ((assignEach ts X.env).map (·.2)) us) (fun _ s' => ∃ σ' H', Inv X pins σ' H' s' ∧ Q σ' H') X.xe s
/-- o[i] = v, by values -/
abbrev TSet := V → V → V → Hp → (Hp → Prop) → Prop
def PSet (X : Cx) (t : TSet) : Prop :=
  ∀ (pins : List (Addr × Obj)) (s : Shared) (σ : St) (H : Hp) (o i v : V) (ov iv u : Value) (Q : Hp → Prop), Inv X pins σ H s → RelV o ov → RelV i iv → RelV v u → t o i v H Q →
    wpAny (model X.prog X.w) X.A (setItem ov iv u) (fun _ s' => ∃ H', Inv X pins σ H' s' ∧ Q H') X.xe s
section
variable {X : Cx} {pos : Pos}
def gName (i : Nat) : TG := fun v σ H Q => Q (σ.set i (some v)) H
theorem pg_name {i : Nat} {x : Str} (hN : X.N.Nodup) (hi : X.N[i]? = some x) (hx : Loc X.env.scope x) (hf : X.fn x = true ∨ X.env.scope.names.lookup x = some .local := by first | exact .inl rfl | exact .inr rfl | assumption) : PG X (.Name x pos) (gName i) := by
  intro pins s σ H v u Q I r h
  exact wpAny_assign_Name (store_ok I hN hi hx r (fun s' I' => ⟨_, H, I', h⟩) hf)
def gNil : TGs := fun vs σ H Q => vs = [] ∧ Q σ H
def gCons (t : TG) (u : TGs) : TGs := fun vs σ H Q => ∃ v r, vs = v :: r ∧ t v σ H fun σ' H' => u r σ' H' Q
theorem pgs_nil : PGs X [] gNil := by
  intro pins s σ H vs us Q I r h
  obtain ⟨e, h⟩ := h
  subst e
  cases r
  exact assignInOrder_nil ⟨σ, H, I, h⟩
theorem pgs_cons {e : Expr} {es : List Expr} {t : TG} {u : TGs} (h1 : PG X e t) (h2 : PGs X es u)
    (hs : (assignEach (e :: es) X.env).map (·.2) = assign e X.env :: (assignEach es X.env).map (·.2) := by rfl) : PGs X (e :: es) (gCons t u) := by
  intro pins s σ H vs us Q I r h
  obtain ⟨v, vr, e1, h⟩ := h
  subst e1
  cases r with
  | cons r rr =>
    rw [hs]
    refine assignInOrder_cons (thn (h1 pins s σ H _ _ _ I r h) fun _ s1 ⟨σ1, H1, I1, q1⟩ => ?_)
    exact h2 pins s1 σ1 H1 _ _ Q I1 rr q1
/-- (a, b, ..) = a tuple of that length -/
def gTup (K : PySem.W.Frag) (n : Nat) (t : TGs) : TG := fun v σ H Q => ∃ a xs, v = .ref a ∧ SqT K H a xs ∧ xs.length = n ∧ t xs σ H Q
theorem pg_tup {es : List Expr} {k : Nat} {t : TGs} {n : Nat} (hc : X.calm = true) (h : PGs X es t)
    (hn : (assignEach es X.env).length = n := by rfl) (hst : (assignEach es X.env).findIdx? (·.1) = none := by rfl) : PG X (.Tuple es k pos) (gTup X.K n t) := by
  intro pins s σ H v u Q I r hw
  obtain ⟨a, xs, e1, hq, hl, hw⟩ := hw
  subst e1
  cases r
  obtain ⟨its, rv, ht, hz⟩ := I.tuple hq
  refine assign_Tuple_tuple (I.ok.hd hc) ht (by simp [hn, ← hl, rv.length]) hst fun h' hx => ?_
  have I1 : Inv X pins σ H { s with heap := h' } := I.kept (t' := s.toks) fun b o e => hx b o (Nat.ne_of_lt (Heap.lt_size e)) e
  exact h pins _ σ H xs _ Q I1 (by simpa using rv) hw
/-- o[i] = .. -/
def gSub (to ti : TE) (t : TSet) : TG := fun v σ H Q => to σ H fun o H1 => ti σ H1 fun i H2 => t o i v H2 fun H3 => Q σ H3
theorem pg_sub {o i : Expr} {to ti : TE} {t : TSet} (ho : PE X o to) (hi : PE X i ti) (hs : PSet X t)
    (ha : ∀ v, assign (.Subscript o i pos) X.env v = (do
      let ov ← holding [v] (eval o X.env)
      let iv ← holding [v, ov] (eval i X.env)
      standAt pos
      holding [v, ov, iv] (setItem ov iv v)
      release [v, ov, iv] []) := by intro _; rfl) : PG X (.Subscript o i pos) (gSub to ti t) := by
  intro pins s σ H v u Q I r h
  rw [ha]
  refine wpAny_bind (wpAny_holding (thn (ho pins s σ H _ I h) fun ov s1 ⟨x, H1, I1, r1, q1⟩ => ?_))
  refine wpAny_bind (wpAny_holding (thn (hi pins s1 σ H1 _ I1 q1) fun iv s2 ⟨y, H2, I2, r2, q2⟩ => ?_))
  refine wpAny_bind (wpAny_standAt (wpAny_bind (wpAny_holding (thn (hs pins s2 σ H2 x y v ov iv u _ I2 r1 r2 r q2) fun _ s3 ⟨H3, I3, q3⟩ => ?_))))
  exact wpAny_release ⟨σ, H3, I3, q3⟩
/-- target = value -/
def tAsg (te : TE) (g : TG) : TS := fun D σ H => te σ H fun x H1 => g x σ H1 D.nx
theorem ps_asg {tg e : Expr} {te : TE} {g : TG} (he : PE X e te) (hg : PG X tg g) (hs : swapsWithSole [tg] e pos.line X.env = pure false := by rfl) (hw : swappedStores [tg] e X.env = pure none := by rfl)
    (h1 : (assignEach [tg] X.env).map (·.2) = [assign tg X.env] := by rfl) : PS X (.Assign [tg] e pos) (tAsg te g) := by
  intro pins s σ H D I h
  refine wpAny_Assign_stores (thn (he pins s σ H _ I h) fun v s1 ⟨x, H1, I1, r1, q1⟩ => ?_) hs hw
  rw [h1]
  exact thn (hg pins s1 σ H1 x v _ I1 r1 q1) fun _ s2 q => q
/-- name = value -/
theorem ps_set {i : Nat} {x : Str} {e : Expr} {te : TE} {pos' : Pos} (hN : X.N.Nodup) (hi : X.N[i]? = some x) (hx : Loc X.env.scope x) (he : PE X e te) (hs : swapsWith e (some (.Name x pos')) pos.line X.env = pure false := by rfl) (hf : X.fn x = true ∨ X.env.scope.names.lookup x = some .local := by first | exact .inl rfl | exact .inr rfl | assumption) :
    PS X (.Assign [.Name x pos'] e pos) (tAsg te (gName i)) := by
  intro pins s σ H D I h
  refine wpAny_Assign_Name (thn (he pins s σ H _ I h) fun v s1 ⟨y, H1, I1, r1, q1⟩ => ?_) hs
  exact store_ok I1 hN hi hx r1 (fun s2 I2 => ⟨_, H1, I2, q1⟩) hf
end

/-! ### while -/
section
variable {X : Cx} {pos : Pos}
end

/-! ### what a loop or a comprehension walks -/
/-- at turn i: it yields x (the heap may grow), or it stops -/
structure It where
  go : Nat → Hp → Prop
  yld : Nat → Hp → V → Hp → Prop
  stop : Nat → Hp → Prop
/-- the iterator's own objects may turn: they are not the frame's, not pinned, younger than the entry (or a comprehension's own) -/
def FpOk (X : Cx) (pins : List (Addr × Obj)) (H : Hp) (b : Addr) : Prop :=
  H b = none ∧ b ≠ X.env.locals ∧ b ∉ X.fs ∧ (b ∈ X.ex ∨ X.s₀.heap.objs.size ≤ b) ∧ (∀ x c, X.env.cells.lookup x = some c → c ≠ b) ∧ ∀ p ∈ X.pn ++ pins, p.1 ≠ b
theorem Inv.fpOk {X : Cx} {pins : List (Addr × Obj)} {σ : St} {H H' : Hp} {s : Shared} {b : Addr} (I : Inv X pins σ H s) (hb : s.heap.objs.size ≤ b) (hn : H' b = none) : FpOk X pins H' b := by
  refine ⟨hn, Nat.ne_of_gt (Nat.lt_of_lt_of_le I.lt hb), I.nofs hb, .inr (Nat.le_trans I.sz hb), fun x c e z => ?_, fun p hp z => ?_⟩
  · obtain ⟨v, q⟩ := I.cell x c e
    exact absurd (Nat.lt_of_lt_of_le q.lt (by rw [z]; exact hb)) (Nat.lt_irrefl _)
  · exact absurd (Nat.lt_of_lt_of_le (Heap.lt_size (I.pin p hp).1) (by rw [z]; exact hb)) (Nat.lt_irrefl _)
structure Turn (P : Program) (w : World) (K : PySem.W.Frag) (tg : Expr) (J : It) (fp : List Addr) (it : Addr) (tn : Nat → Heap → Prop) : Prop where
  mem : it ∈ fp
  obj : ∀ i h, tn i h → ∀ b ∈ fp, ∃ o, h.get? b = some o ∧ ∀ v, o.data ≠ .cell v
  keep : ∀ i h h', tn i h → (∀ b ∈ fp, ∀ o, h.get? b = some o → h'.get? b = some o) → tn i h'
  item : ∀ (X : Cx), X.prog = P → X.w = w → X.K = K → X.calm = true → ∀ (i : Nat) (pins : List (Addr × Obj)) (s : Shared) (σ : St) (H : Hp) (E : Value → Shared → Prop), Inv X pins σ H s → (∀ b ∈ fp, FpOk X pins H b) → tn i s.heap → J.go i H →
    wpAny (model P w) X.A (pyNext (.ref it)) (fun r s1 => ∃ u, r = some u ∧
      wpAny (model P w) X.A (letOwnedTupleGo tg (.ref it) u) (fun _ s2 => ∃ x H', Inv X pins σ H' s2 ∧ RelV x u ∧ J.yld i H x H' ∧ tn (i + 1) s2.heap ∧ ∀ b ∈ fp, H' b = none) E s1) E s
  done : ∀ (X : Cx), X.prog = P → X.w = w → X.K = K → X.calm = true → ∀ (i : Nat) (pins : List (Addr × Obj)) (s : Shared) (σ : St) (H : Hp) (E : Value → Shared → Prop), Inv X pins σ H s → (∀ b ∈ fp, FpOk X pins H b) → tn i s.heap → J.stop i H →
    wpAny (model P w) X.A (pyNext (.ref it)) (fun r s1 => r = none ∧ Inv X pins σ H s1) E s
  self : ∀ (A : Around) (i : Nat) (s : Shared) (Q : Value → Shared → Prop) (E : Value → Shared → Prop), tn i s.heap → Q (.ref it) s → wpAny (model P w) A (pyIter (.ref it)) Q E s
abbrev TI := St → Hp → (It → Hp → Prop) → Prop
/-- an iterator has come -/
def PIE (X : Cx) (pins : List (Addr × Obj)) (σ : St) (tg : Expr) (R : It → Hp → Prop) (itv : Value) (s2 : Shared) : Prop :=
  ∃ (it : Addr) (fp : List Addr) (tn : Nat → Heap → Prop) (J : It) (H' : Hp), itv = .ref it ∧ Inv X pins σ H' s2 ∧ Turn X.prog X.w X.K tg J fp it tn ∧ tn 0 s2.heap ∧ (∀ b ∈ fp, FpOk X pins H' b) ∧ R J H'
def PI (X : Cx) (tg iter : Expr) (wi : TI) : Prop :=
  ∀ (pins : List (Addr × Obj)) (s : Shared) (σ : St) (H : Hp) (R : It → Hp → Prop), Inv X pins σ H s → wi σ H R →
    wpAny (model X.prog X.w) X.A (eval iter X.env) (fun v s1 => wpAny (model X.prog X.w) X.A (pyIter v) (PIE X pins σ tg R) X.xe s1) X.xe s

/-- the step ahead of the store is nothing for an iterator that keeps no tuple -/
theorem go_of {M : Model} {A : Around} {E : Value → Shared → Prop} {s : Shared} {tg : Expr} {it : Addr} {u : Value} {o : Obj} {n : String} {vs : Array Value} {Q : Unit → Shared → Prop} (ho : s.heap.get? it = some o) (hc : o.cls = .type n) (hd : o.data = .fields vs)
    (hn : ["enumerate", "zip", "dict_itemiterator", "dict_reverseitemiterator", "odict_iterator", "itertools.zip_longest", "itertools.pairwise"].contains n = false) (hQ : Q () s) : wpAny M A (letOwnedTupleGo tg (.ref it) u) Q E s := by
  unfold letOwnedTupleGo
  cases tg <;> first
    | exact wpAny_pure hQ
    | (cases u <;> first
        | exact wpAny_pure hQ
        | (refine wpAny_bind (wpAny_load ho ?_)
           rw [hc, hd]
           show wpAny M A (if (["enumerate", "zip", "dict_itemiterator", "dict_reverseitemiterator", "odict_iterator", "itertools.zip_longest", "itertools.pairwise"].contains n && vs[0]? == some (rawInt _)) = true then _ else _) Q E s
           rw [if_neg (by intro h; rw [hn, Bool.false_and] at h; cases h)]
           exact wpAny_pure hQ))

/-- the list at a, as it stands at each turn (a loop may append to it) -/
def Itl (K : PySem.W.Frag) (a : Addr) : It :=
  ⟨fun i H => ∃ xs x, SqL K H a xs ∧ xs[i]? = some x, fun i H x H' => H' = H ∧ ∀ xs, SqL K H a xs → xs[i]? = some x, fun i H => ∃ xs, SqL K H a xs ∧ xs.length ≤ i⟩
/-- lo, lo + 1, .. (n of them) -/
def Itr (lo : Int) (n : Nat) : It := ⟨fun i _ => i < n, fun i H x H' => H' = H ∧ x = .int (lo + i), fun i _ => n ≤ i⟩
theorem turn_list {P : Program} {w : World} {K : PySem.W.Frag} {tg : Expr} (a it : Addr) : Turn P w K tg (Itl K a) [it] it (fun i h => h.IsListIter it a i) where
  mem := by simp
  obj := fun i h st b hb => by
    have e : b = it := by simpa using hb
    subst e
    obtain ⟨o, e, c, d⟩ := st
    exact ⟨o, e, fun v z => by rw [d] at z; cases z⟩
  keep := fun i h h' st k => st.at fun o e => k it (by simp) o e
  item := by
    intro X hP hw hK hc i pins s σ H E I hf st hg
    subst hP hw hK
    obtain ⟨xs, x, hq, hx⟩ := hg
    obtain ⟨its, rv, p, hz⟩ := I.list hq
    obtain ⟨u, hu, ru⟩ := rv.get hx
    obtain ⟨f0, f1, f2, f3, f4, f5⟩ := hf it (by simp)
    refine wpAny_pyNext_list_item st p.isList (x := u) (by simpa using hu) fun h' st' sb => ?_
    have I1 : Inv X pins σ H { s with heap := h' } := I.turned (t' := s.toks) (fun b o hb e => (sb.2 b hb).trans e) f0 f1 f3 f4 f5
    obtain ⟨o, e, c, d⟩ := id st'
    exact ⟨u, rfl, go_of (s := { s with heap := h' }) e c d (by decide) ⟨x, H, I1, ru, ⟨rfl, fun ys hy => by rw [I.list_inj hy hq]; exact hx⟩, st', fun b hb => (hf b hb).1⟩⟩
  done := by
    intro X hP hw hK hc i pins s σ H E I hf st hg
    subst hP hw hK
    obtain ⟨xs, hq, hx⟩ := hg
    obtain ⟨its, rv, p, hz⟩ := I.list hq
    obtain ⟨f0, f1, f2, f3, f4, f5⟩ := hf it (by simp)
    have hl := rv.length
    exact wpAny_pyNext_list_end (I.ok.hd hc) st p.isList (by simp; omega) fun h' eb => ⟨rfl, I.turned (t' := s.toks) (fun b o hb e => eb b o hb e) f0 f1 f3 f4 f5⟩
  self := fun _ _ _ _ _ st h => wpAny_pyIter_listiter st h
theorem turn_range {P : Program} {w : World} {K : PySem.W.Frag} {tg : Expr} (it : Addr) (lo : Int) (n : Nat) : Turn P w K tg (Itr lo n) [it] it (fun i h => IsRangeIter h it (lo + (i : Nat) * 1) ((n : Int) - (i : Nat)) 1) where
  mem := by simp
  obj := fun i h st b hb => by
    have e : b = it := by simpa using hb
    subst e
    exact ⟨_, st, fun v z => by
      have z' : Data.fields _ = Data.cell v := z
      cases z'⟩
  keep := fun i h h' st k => k it (by simp) _ st
  item := by
    intro X hP hw hK hc i pins s σ H E I hf st hg
    subst hP hw hK
    obtain ⟨f0, f1, f2, f3, f4, f5⟩ := hf it (by simp)
    have W := Walks.range (prog := X.prog) (w := X.w) (I.ok.hd hc) it lo 1 n
    refine W.item i s _ _ hg st fun v h' tk hv st' kk => ?_
    obtain ⟨t, rfl⟩ := hv
    have I1 : Inv X pins σ H { s with heap := h', toks := tk } := I.turned (fun b o hb e => kk b o (by simpa using hb) e) f0 f1 f3 f4 f5
    refine ⟨_, rfl, go_of (s := { s with heap := h', toks := tk }) (n := "range_iterator") st' rfl rfl (by decide) ⟨.int (lo + i), H, I1, ⟨t, ?_⟩, ⟨rfl, rfl⟩, st', fun b hb => (hf b hb).1⟩⟩
    rw [Int.mul_one]
  done := by
    intro X hP hw hK hc i pins s σ H E I hf st hg
    subst hP hw hK
    obtain ⟨f0, f1, f2, f3, f4, f5⟩ := hf it (by simp)
    exact wpAny_pyNext_range_end (I.ok.hd hc) st (by have : n ≤ i := hg; omega) fun h' eb => ⟨rfl, I.turned (t' := s.toks) (fun b o hb e => eb b o hb e) f0 f1 f3 f4 f5⟩
  self := fun _ _ _ _ _ st h => wpAny_pyIter_rangeiter st h
end L2

namespace L2
open PySem PySem.Spec PyProof.Rows
section
variable {X : Cx} {tg : Expr}
def iList (K : PySem.W.Frag) (tl : TE) : TI := fun σ H R => tl σ H fun x H1 => ∃ a, x = .ref a ∧ (∃ xs, SqL K H1 a xs) ∧ R (Itl K a) H1
theorem pi_list {l : Expr} {tl : TE} (hl : PE X l tl) : PI X tg l (iList X.K tl) := by
  intro pins s σ H R I h
  refine thn (hl pins s σ H _ I h) fun v s1 ⟨x, H1, I1, r1, q1⟩ => ?_
  obtain ⟨a, e, ⟨xs, hq⟩, q⟩ := q1
  subst e
  cases r1
  obtain ⟨its, rv, p, hz⟩ := I1.list hq
  refine wpAny_pyIter_list p.isList ?_
  refine ⟨s1.heap.objs.size, [s1.heap.objs.size], _, _, H1, rfl, I1.kept (t' := s1.toks) fun b o e => Heap.get?_push_of_some _ e, turn_list a _, ⟨_, Heap.get?_push_size _ rfl, rfl, rfl⟩, fun b hb => ?_, q⟩
  have e : b = s1.heap.objs.size := by simpa using hb
  subst e
  exact I1.fpOk (Nat.le_refl _) (I1.hok.fresh (Nat.le_refl _))
/-- a range object just made, walked -/
theorem range_it {pins : List (Addr × Obj)} {σ : St} {H : Hp} {s : Shared} {R : It → Hp → Prop} {E : Value → Shared → Prop} {lo hi : Int} {t u v : Tok} {tk : Nat} (I : Inv X pins σ H s) (h1 : -(2 ^ 62) ≤ lo) (h2 : lo < 2 ^ 62) (h3 : -(2 ^ 62) ≤ hi) (h4 : hi < 2 ^ 62)
    (q : R (Itr lo (hi - lo).toNat) H) : wpAny (model X.prog X.w) X.A (pyIter (.ref s.heap.objs.size)) (PIE X pins σ tg R) E { s with heap := s.heap.push { cls := .type "range", data := .fields #[.int lo t, .int hi u, .int 1 v] }, toks := tk } := by
  refine wpAny_pyIter_range (IsRange.new ..) (small_one h1 h2 h3 h4) ?_
  have I1 : Inv X pins σ H { s with heap := s.heap.push { cls := .type "range", data := .fields #[.int lo t, .int hi u, .int 1 v] }, toks := tk } := I.kept fun b o e => Heap.get?_push_of_some _ e
  refine ⟨(s.heap.push { cls := .type "range", data := .fields #[.int lo t, .int hi u, .int 1 v] }).objs.size, [(s.heap.push { cls := .type "range", data := .fields #[.int lo t, .int hi u, .int 1 v] }).objs.size], _, _, H, rfl,
    I1.kept (t' := tk) fun b o e => Heap.get?_push_of_some _ e, turn_range _ lo (hi - lo).toNat, ?_, fun b hb => ?_, q⟩
  · have e1 : lo + ((0 : Nat) : Int) * 1 = lo := by simp
    have e2 : (((hi - lo).toNat : Nat) : Int) - ((0 : Nat) : Int) = Builtin.Range.rangeSize lo hi 1 := by rw [rangeSize_one]; split <;> omega
    show IsRangeIter _ _ (lo + ((0 : Nat) : Int) * 1) ((((hi - lo).toNat : Nat) : Int) - ((0 : Nat) : Int)) 1
    rw [e1, e2]
    exact Heap.get?_push_size _ rfl
  · have e : b = (s.heap.push { cls := .type "range", data := .fields #[.int lo t, .int hi u, .int 1 v] }).objs.size := by simpa using hb
    subst e
    exact I1.fpOk (Nat.le_refl _) (I1.hok.fresh (Nat.le_refl _))
def iRng1 (ta : TA) : TI := fun σ H R => ta σ H fun vs H1 => ∃ j : Int, vs = [.int j] ∧ -(2 ^ 62) ≤ j ∧ j < 2 ^ 62 ∧ R (Itr 0 j.toNat) H1
theorem pi_range1 {a : Expr} {ta : TA} {p pos : Pos} (hg : Gl X "range") (hm : X.mg "range" = none) (ha : PA X [a] ta) (hs : starEach [a] X.env = [(false, eval a X.env)] := by rfl) : PI X tg (.Call (.Name "range" p) [a] [] pos) (iRng1 ta) := by
  intro pins s σ H R I h
  refine Call_ (ld_blt I hg hm boot_range (PyProof.Rows.callWith_type1 (thn (ha pos pins s σ H _ I h) fun us s1 ⟨vs, H1, I1, r1, q1⟩ => ?_) hs rfl))
  obtain ⟨j, e, q1, q2, q⟩ := q1
  subst e
  cases r1 with
  | cons r rr =>
    cases rr
    obtain ⟨t, rfl⟩ := r
    exact call_range_1 (range_it I1 (by omega) (by omega) q1 q2 (by simpa using q))

/-! ### for -/
/-- W: the invariant by the turn and a measure; N: what the body is to reach -/
def tFor (wi : TI) (g : TG) (tb : TS) : TS := fun D σ H => wi σ H fun J H1 => ∃ W : Nat → Nat → St → Hp → Prop, (∃ m, W 0 m σ H1) ∧ ∀ i m σ H, W i m σ H →
  (J.stop i H ∧ D.nx σ H) ∨ (J.go i H ∧ ∃ N : St → Hp → Prop, (∀ σ' H', N σ' H' → ∃ m', m' < m ∧ W (i + 1) m' σ' H') ∧ ∀ x H', J.yld i H x H' → g x σ H' fun σ2 H2 => tb { D with nx := N, ct := N, bk := D.nx } σ2 H2)
/-- the records at fp as they stand -/
def pinsAt (fp : List Addr) (h : Heap) : List (Addr × Obj) := fp.filterMap fun b => (h.get? b).map fun o => (b, o)
theorem mem_pinsAt {fp : List Addr} {h : Heap} {b : Addr} {o : Obj} (hb : b ∈ fp) (e : h.get? b = some o) : (b, o) ∈ pinsAt fp h := List.mem_filterMap.mpr ⟨b, hb, by rw [e]; rfl⟩
theorem of_pinsAt {fp : List Addr} {h : Heap} {p : Addr × Obj} (hp : p ∈ pinsAt fp h) : p.1 ∈ fp ∧ h.get? p.1 = some p.2 := by
  obtain ⟨b, hb, e⟩ := List.mem_filterMap.mp hp
  cases q : h.get? b with
  | none => rw [q] at e; cases e
  | some o =>
    rw [q] at e
    have e' : (b, o) = p := Option.some.inj e
    subst e'
    exact ⟨hb, q⟩
theorem Inv.pinned {pins : List (Addr × Obj)} {σ : St} {H : Hp} {s : Shared} {fp : List Addr} (I : Inv X pins σ H s) (hf : ∀ b ∈ fp, FpOk X pins H b) (ho : ∀ b ∈ fp, ∃ o, s.heap.get? b = some o ∧ ∀ v, o.data ≠ .cell v) : Inv X (pins ++ pinsAt fp s.heap) σ H s :=
  I.pins_of fun p hp => (List.mem_append.mp hp).elim (fun z => I.pin p (List.mem_append_right _ z)) fun z => by
    obtain ⟨hb, e⟩ := of_pinsAt z
    obtain ⟨f0, f1, f2, _⟩ := hf p.1 hb
    obtain ⟨o, e', d⟩ := ho p.1 hb
    rw [e] at e'; cases e'
    exact ⟨e, f0, f1, f2, d⟩
theorem Inv.unpinned {pins pl : List (Addr × Obj)} {σ : St} {H : Hp} {s : Shared} (I : Inv X (pins ++ pl) σ H s) : Inv X pins σ H s := I.pins_of fun p hp => I.pin p (List.mem_append_right _ (List.mem_append_left _ hp))
theorem ps_for {iter : Expr} {body : List Stmt} {wi : TI} {g : TG} {tb : TS} {pos : Pos} (hp : PassesOwn (model X.prog X.w) X.A X.env X.xe) (hc : X.calm = true) (hi : PI X tg iter wi) (hg : PG X tg g) (hb : PSs X body tb)
    (hs : ∀ x, foldedSetIterable iter X.env x = pure x := by intro _; rfl) : PS X (.For tg iter body [] pos) (tFor wi g tb) := by
  intro pins s σ H D I h
  refine wpAny_For (thn (hi pins s σ H _ I h) fun v s1 h1 => thn h1 fun itv s2 h2 => ?_) hs
  obtain ⟨it, fp, tn, J, H2, e, I2, T, st2, f2, W, ⟨m0, w0⟩, turn⟩ := h2
  subst e
  -- what stays true of the iterator's objects through the loop
  have stat : ∀ {H' : Hp}, (∀ b ∈ fp, H' b = none) → ∀ b ∈ fp, FpOk X pins H' b := fun hn b hb => ⟨hn b hb, (f2 b hb).2⟩
  refine codeAny_forLoop_any (fun n s' => ∃ i σ' H', Inv X pins σ' H' s' ∧ tn i s'.heap ∧ (∀ b ∈ fp, H' b = none) ∧ W i n σ' H') ?_ m0 ⟨0, σ, H2, I2, st2, fun b hb => (f2 b hb).1, w0⟩
  rintro n s3 ⟨i, σ3, H3, I3, st3, fr3, w3⟩
  rcases turn i n σ3 H3 w3 with ⟨stop, qn⟩ | ⟨go, N, hN, step⟩
  · refine wpAny_passesOwn hp (thn (T.done X rfl rfl rfl hc i pins s3 σ3 H3 X.xe I3 (stat fr3) st3 stop) fun r s4 ⟨hr, I4⟩ => ?_)
    subst hr
    exact wpAny_execs_nil ⟨σ3, H3, I4, qn⟩
  · refine wpAny_passesOwn hp (thn (T.item X rfl rfl rfl hc i pins s3 σ3 H3 X.xe I3 (stat fr3) st3 go) fun r s4 ⟨u, hr, h4⟩ => ?_)
    subst hr
    refine wpAny_passesOwn hp (thn h4 fun _ s5 ⟨x, H5, I5, r5, y5, st5, fr5⟩ => ?_)
    have I5' := I5.pinned (stat fr5) (T.obj _ _ st5)
    refine wpAny_passesOwn hp (thn (hg _ s5 σ3 H5 x u _ I5' r5 (step x H5 y5)) fun _ s6 ⟨σ6, H6, I6, q6⟩ => ?_)
    refine wpAny_passesOwn hp (thn (hb _ s6 σ6 H6 _ I6 q6) fun f s7 q7 => ?_)
    have again : ∀ {σ7 : St} {H7 : Hp}, Inv X (pins ++ pinsAt fp s5.heap) σ7 H7 s7 → N σ7 H7 → ∃ m, m < n ∧ ∃ i σ' H', Inv X pins σ' H' s7 ∧ tn i s7.heap ∧ (∀ b ∈ fp, H' b = none) ∧ W i m σ' H' := fun {σ7 H7} I7 n7 => by
      obtain ⟨m', hm, w7⟩ := hN σ7 H7 n7
      refine ⟨m', hm, i + 1, σ7, H7, I7.unpinned, T.keep _ _ _ st5 fun b hb o e => (I7.pin (b, o) (List.mem_append_right _ (List.mem_append_right _ (mem_pinsAt hb e)))).1, fun b hb => ?_, w7⟩
      obtain ⟨o, e, d⟩ := T.obj _ _ st5 b hb
      exact (I7.pin (b, o) (List.mem_append_right _ (List.mem_append_right _ (mem_pinsAt hb e)))).2.1
    cases f with
    | next => obtain ⟨σ7, H7, I7, n7⟩ := q7; exact again I7 n7
    | cont => obtain ⟨σ7, H7, I7, n7⟩ := q7; exact again I7 n7
    | brk => obtain ⟨σ7, H7, I7, q7⟩ := q7; exact ⟨σ7, H7, I7.unpinned, q7⟩
    | ret v => obtain ⟨x7, σ7, H7, I7, r7, q7⟩ := q7; exact ⟨x7, σ7, H7, I7.unpinned, r7, q7⟩
end

/-! ### the forms one uses -/
/-- over a list that the body leaves as it is -/
theorem for_list {K : PySem.W.Frag} {a : Addr} {xs : List V} {g : TG} {tb : TS} {D : Ends} {σ : St} {H : Hp} (Pv : Nat → St → Hp → Prop) (h0 : Pv 0 σ H) (hl : ∀ i σ H, i ≤ xs.length → Pv i σ H → SqL K H a xs)
    (hs : ∀ i x σ H, xs[i]? = some x → Pv i σ H → g x σ H fun σ2 H2 => tb { D with nx := Pv (i + 1), ct := Pv (i + 1), bk := D.nx } σ2 H2) (hd : ∀ σ H, Pv xs.length σ H → D.nx σ H) :
    ∃ W : Nat → Nat → St → Hp → Prop, (∃ m, W 0 m σ H) ∧ ∀ i m σ H, W i m σ H →
      ((Itl K a).stop i H ∧ D.nx σ H) ∨ ((Itl K a).go i H ∧ ∃ N : St → Hp → Prop, (∀ σ' H', N σ' H' → ∃ m', m' < m ∧ W (i + 1) m' σ' H') ∧ ∀ x H', (Itl K a).yld i H x H' → g x σ H' fun σ2 H2 => tb { D with nx := N, ct := N, bk := D.nx } σ2 H2) := by
  refine ⟨fun i m σ H => m = xs.length - i ∧ i ≤ xs.length ∧ Pv i σ H, ⟨xs.length, by simp, Nat.zero_le _, h0⟩, ?_⟩
  rintro i m σ H ⟨rfl, hi, p⟩
  have q := hl i σ H hi p
  by_cases hlt : i < xs.length
  · refine .inr ⟨⟨xs, xs[i], q, by simp [hlt]⟩, Pv (i + 1), fun σ' H' p' => ⟨xs.length - (i + 1), by omega, rfl, hlt, p'⟩, fun x H' y => ?_⟩
    obtain ⟨e, y⟩ := y
    subst e
    exact hs i x σ _ (y xs q) p
  · have e : i = xs.length := by omega
    subst e
    exact .inl ⟨⟨xs, q, Nat.le_refl _⟩, hd σ H p⟩
theorem for_range {lo : Int} {n : Nat} {g : TG} {tb : TS} {D : Ends} {σ : St} {H : Hp} (Pv : Nat → St → Hp → Prop) (h0 : Pv 0 σ H)
    (hs : ∀ i σ H, i < n → Pv i σ H → g (.int (lo + i)) σ H fun σ2 H2 => tb { D with nx := Pv (i + 1), ct := Pv (i + 1), bk := D.nx } σ2 H2) (hd : ∀ σ H, Pv n σ H → D.nx σ H) :
    ∃ W : Nat → Nat → St → Hp → Prop, (∃ m, W 0 m σ H) ∧ ∀ i m σ H, W i m σ H →
      ((Itr lo n).stop i H ∧ D.nx σ H) ∨ ((Itr lo n).go i H ∧ ∃ N : St → Hp → Prop, (∀ σ' H', N σ' H' → ∃ m', m' < m ∧ W (i + 1) m' σ' H') ∧ ∀ x H', (Itr lo n).yld i H x H' → g x σ H' fun σ2 H2 => tb { D with nx := N, ct := N, bk := D.nx } σ2 H2) := by
  refine ⟨fun i m σ H => m = n - i ∧ i ≤ n ∧ Pv i σ H, ⟨n, by simp, Nat.zero_le _, h0⟩, ?_⟩
  rintro i m σ H ⟨rfl, hi, p⟩
  by_cases hlt : i < n
  · refine .inr ⟨hlt, Pv (i + 1), fun σ' H' p' => ⟨n - (i + 1), by omega, rfl, hlt, p'⟩, fun x H' y => ?_⟩
    obtain ⟨e, y⟩ := y
    subst e y
    exact hs i σ _ hlt p
  · have e : i = n := by omega
    subst e
    exact .inl ⟨Nat.le_refl _, hd σ H p⟩
end L2

namespace L2
open PySem PySem.Spec PyProof.Rows

abbrev R2 := V → V → Hp → VK → Prop
/-- a two-place operation on values: f is binaryOp op, inplaceOp op or compareOp op -/
def OpR (X : Cx) (f : Value → Value → Sem Value) (r : R2) : Prop :=
  ∀ (pins : List (Addr × Obj)) (s : Shared) (σ : St) (H : Hp) (x y : V) (v u : Value) (Q : VK), Inv X pins σ H s → RelV x v → RelV y u → r x y H Q →
    wpAny (model X.prog X.w) X.A (f v u) (EP X pins σ Q) X.xe s
/-- a one-place operation -/
def UnR (X : Cx) (f : Value → Sem Value) (r : V → Hp → VK → Prop) : Prop :=
  ∀ (pins : List (Addr × Obj)) (s : Shared) (σ : St) (H : Hp) (x : V) (v : Value) (Q : VK), Inv X pins σ H s → RelV x v → r x H Q →
    wpAny (model X.prog X.w) X.A (f v) (EP X pins σ Q) X.xe s
/-- a call of a value that is known (a builtin, a type) with values -/
def CallR (X : Cx) (f : Value) (r : List V → Hp → VK → Prop) : Prop :=
  ∀ (pins : List (Addr × Obj)) (s : Shared) (σ : St) (H : Hp) (xs : List V) (us : List Value) (Q : VK), Inv X pins σ H s → Vals xs us → r xs H Q →
    wpAny (model X.prog X.w) X.A (call f us) (EP X pins σ Q) X.xe s

def tOp (r : R2) (ta tb : TE) : TE := fun σ H Q => ta σ H fun x H1 => tb σ H1 fun y H2 => r x y H2 Q
def tUn (r : V → Hp → VK → Prop) (ta : TE) : TE := fun σ H Q => ta σ H fun x H1 => r x H1 Q
/-- ints in, under C, and a value out -/
def rI (C : Int → Int → Prop) (g : Int → Int → V) : R2 := fun x y H Q => ∃ i j, x = .int i ∧ y = .int j ∧ C i j ∧ Q (g i j) H
def rI0 (g : Int → Int → V) : R2 := fun x y H Q => ∃ i j, x = .int i ∧ y = .int j ∧ Q (g i j) H
def rU (g : Int → V) : V → Hp → VK → Prop := fun x H Q => ∃ i, x = .int i ∧ Q (g i) H

section
variable {X : Cx} {a b c : Expr} {ta tb tc : TE} {pos : Pos}

theorem binT (ha : PE X a ta) (hb : PE X b tb) {pins : List (Addr × Obj)} {s : Shared} {σ : St} {H : Hp} {R : V → V → Hp → Prop} (I : Inv X pins σ H s)
    (h : ta σ H fun x H1 => tb σ H1 fun y H2 => R x y H2) {Q : Value → Shared → Prop} {f : Value → Value → Sem Value}
    (hf : ∀ v u s2 x y H2, Inv X pins σ H2 s2 → RelV x v → RelV y u → R x y H2 → wpAny (model X.prog X.w) X.A (f v u) Q X.xe s2) :
    wpAny (model X.prog X.w) X.A (eval a X.env) (fun v s₁ => wpAny (model X.prog X.w) X.A (eval b X.env) (fun u s₂ => wpAny (model X.prog X.w) X.A (f v u) Q X.xe s₂) X.xe s₁) X.xe s := by
  refine thn (ha pins s σ H _ I h) fun v s1 ⟨x, H1, I1, r1, q1⟩ => ?_
  refine thn (hb pins s1 σ H1 _ I1 q1) fun u s2 ⟨y, H2, I2, r2, q2⟩ => ?_
  exact hf v u s2 x y H2 I2 r1 r2 q2

theorem pe_op {op : Operator} {r : R2} (ho : OpR X (binaryOp op) r) (ha : PE X a ta) (hb : PE X b tb) : PE X (.BinOp a op b pos) (tOp r ta tb) := by
  intro pins s σ H Q I h
  exact wpAny_BinOp (binT ha hb I h fun v u s2 x y H2 I2 rx ry q => ho pins s2 σ H2 x y v u Q I2 rx ry q)
theorem pe_un {op : UnaryOp} {r : V → Hp → VK → Prop} (ho : UnR X (unaryOp op) r) (ha : PE X a ta) : PE X (.UnaryOp op a pos) (tUn r ta) := by
  intro pins s σ H Q I h
  exact UnaryOp_ (thn (ha pins s σ H _ I h) fun v s1 ⟨x, H1, I1, r1, q1⟩ => ho pins s1 σ H1 x v Q I1 r1 q1)

/-! ### ints -/
theorem opI {f : Value → Value → Sem Value} {C : Int → Int → Prop} {g : Int → Int → Int}
    (rule : ∀ (i j : Int) (t u : Tok) (s : Shared) (Q : Value → Shared → Prop) (E : Value → Shared → Prop), C i j → Q (.int (g i j) s.toks) { s with toks := s.toks + 1 } → wpAny (model X.prog X.w) X.A (f (.int i t) (.int j u)) Q E s) :
    OpR X f (rI C fun i j => .int (g i j)) := by
  intro pins s σ H x y v u Q I rx ry h
  obtain ⟨i, j, rfl, rfl, hc, q⟩ := h
  obtain ⟨t, rfl⟩ := rx
  obtain ⟨t', rfl⟩ := ry
  exact rule i j t t' s _ _ hc ⟨.int (g i j), H, I.tok _, ⟨_, rfl⟩, q⟩
theorem opI0 {f : Value → Value → Sem Value} {g : Int → Int → Int}
    (rule : ∀ (i j : Int) (t u : Tok) (s : Shared) (Q : Value → Shared → Prop) (E : Value → Shared → Prop), Q (.int (g i j) s.toks) { s with toks := s.toks + 1 } → wpAny (model X.prog X.w) X.A (f (.int i t) (.int j u)) Q E s) :
    OpR X f (rI0 fun i j => .int (g i j)) := by
  intro pins s σ H x y v u Q I rx ry h
  obtain ⟨i, j, rfl, rfl, q⟩ := h
  obtain ⟨t, rfl⟩ := rx
  obtain ⟨t', rfl⟩ := ry
  exact rule i j t t' s _ _ ⟨.int (g i j), H, I.tok _, ⟨_, rfl⟩, q⟩
theorem opB0 {f : Value → Value → Sem Value} {g : Int → Int → Bool}
    (rule : ∀ (i j : Int) (t u : Tok) (s : Shared) (Q : Value → Shared → Prop) (E : Value → Shared → Prop), Q (.bool (g i j)) s → wpAny (model X.prog X.w) X.A (f (.int i t) (.int j u)) Q E s) :
    OpR X f (rI0 fun i j => .bl (g i j)) := by
  intro pins s σ H x y v u Q I rx ry h
  obtain ⟨i, j, rfl, rfl, q⟩ := h
  obtain ⟨t, rfl⟩ := rx
  obtain ⟨t', rfl⟩ := ry
  exact rule i j t t' s _ _ ⟨.bl (g i j), H, I, rfl, q⟩

def CDiv (i j : Int) : Prop := 0 < j ∧ j < 1073741824
def CPow (i j : Int) : Prop := 0 ≤ j ∧ j ≤ 1000000 ∧ i.natAbs < 2 ^ 64

theorem op_add : OpR X (binaryOp .Add) (rI0 fun i j => .int (i + j)) := opI0 fun _ _ _ _ _ _ _ q => add_int q
/-- // by a positive divisor -/
theorem op_fdiv : OpR X (binaryOp .FloorDiv) (rI CDiv fun i j => .int (i / j)) := opI fun i j _ _ _ _ _ hc q => by
  have h1 : (0 : Int) < j := hc.1
  have h2 : j < 1073741824 := hc.2
  exact floordiv_int (by omega) (by rw [Int.fdiv_eq_ediv_of_nonneg i (by omega)]; exact q) (.inl (PyProof.noPylong_small (by omega)))
/-- % by a positive divisor of any size -/
theorem op_mod : OpR X (binaryOp .Mod) (rI (fun _ j => 0 < j) fun i j => .int (i % j)) := opI fun i j _ _ _ _ _ hc q => by
  have h1 : (0 : Int) < j := hc
  exact mod_int' (by omega) (by rw [Int.fmod_eq_emod_of_nonneg i (by omega)]; exact q)
theorem op_pow : OpR X (binaryOp .Pow) (rI CPow fun i j => .int (i ^ j.toNat)) := opI fun _ _ _ _ _ _ _ hc q => pow_int_small hc.1 hc.2.1 hc.2.2 q


theorem unI {f : Value → Sem Value} {g : Int → Int}
    (rule : ∀ (i : Int) (t : Tok) (s : Shared) (Q : Value → Shared → Prop) (E : Value → Shared → Prop), Q (.int (g i) s.toks) { s with toks := s.toks + 1 } → wpAny (model X.prog X.w) X.A (f (.int i t)) Q E s) :
    UnR X f (rU fun i => .int (g i)) := by
  intro pins s σ H x v Q I rx h
  obtain ⟨i, rfl, q⟩ := h
  obtain ⟨t, rfl⟩ := rx
  exact rule i t s _ _ ⟨.int (g i), H, I.tok _, ⟨_, rfl⟩, q⟩
theorem un_neg : UnR X (unaryOp .USub) (rU fun i => .int (-i)) := unI fun _ _ _ _ _ q => neg_int q

/-! ### bools among ints: n += (a < b) -/
end

/-! ### comparisons -/
/-- the scalars that == tells apart as data does -/
def scal : V → V → Bool
  | .non, .non => true | .non, .int _ => true | .int _, .non => true | .non, .bl _ => true | .bl _, .non => true | .non, .str _ => true | .str _, .non => true
  | .int _, .int _ => true | .bl _, .bl _ => true | .str _, .str _ => true | .byt _, .byt _ => true
  | .int _, .str _ => true | .str _, .int _ => true | .bl _, .str _ => true | .str _, .bl _ => true
  | _, _ => false
def rEq : R2 := fun x y H Q => scal x y = true ∧ Q (.bl (decide (x = y))) H
def rNe : R2 := fun x y H Q => scal x y = true ∧ Q (.bl (!decide (x = y))) H

theorem dec_int {i j : Int} : decide (V.int i = V.int j) = (i == j) := by
  rw [Bool.eq_iff_iff]
  simp
theorem dec_bl {i j : Bool} : decide (V.bl i = V.bl j) = (i == j) := by
  rw [Bool.eq_iff_iff]
  simp
theorem dec_str {i j : Str} : decide (V.str i = V.str j) = (i == j) := by
  rw [Bool.eq_iff_iff]
  simp
theorem dec_byt {i j : Array UInt8} : decide (V.byt i = V.byt j) = (i.toList == j.toList) := by
  rw [Bool.eq_iff_iff]
  cases i
  cases j
  simp

section
variable {X : Cx} {a b c : Expr} {ta tb tc : TE} {pos : Pos}
theorem fin_bl {pins : List (Addr × Obj)} {σ : St} {H : Hp} {s : Shared} {Q : VK} {k k' : Bool} (I : Inv X pins σ H s) (q : Q (.bl k) H) (e : k = k') : EP X pins σ Q (.bool k') s := by
  subst e
  exact ⟨.bl k, H, I, rfl, q⟩
theorem op_eq : OpR X (compareOp .Eq) rEq := by
  intro pins s σ H x y v u Q I rx ry h
  obtain ⟨hs, q⟩ := h
  cases x with
  | non =>
    cases rx
    cases y with
    | non => cases ry; exact PySem.EqNone.eq_none_none (fin_bl I q (by simp))
    | bl j => cases ry; exact PySem.EqNone.eq_none_bool (fin_bl I q (by simp))
    | int j => obtain ⟨t', rfl⟩ := ry; exact PySem.EqNone.eq_none_int (fin_bl I q (by simp))
    | str j => obtain ⟨t', rfl⟩ := ry; exact PySem.EqNone.eq_none_str (fin_bl I q (by simp))
    | _ => exact absurd (show false = true from hs) Bool.false_ne_true
  | bl i =>
    cases rx
    cases y with
    | non => cases ry; exact PySem.EqNone.eq_bool_none (fin_bl I q (by simp))
    | bl j => cases ry; exact eq_bool (fin_bl I q dec_bl)
    | str j => obtain ⟨t', rfl⟩ := ry; exact PySem.EqMixed.eq_bool_str (fin_bl I q (by simp))
    | _ => exact absurd (show false = true from hs) Bool.false_ne_true
  | int i =>
    obtain ⟨t, rfl⟩ := rx
    cases y with
    | non => cases ry; exact PySem.EqNone.eq_int_none (fin_bl I q (by simp))
    | int j => obtain ⟨t', rfl⟩ := ry; exact eq_int (fin_bl I q dec_int)
    | str j => obtain ⟨t', rfl⟩ := ry; exact PySem.EqMixed.eq_int_str (fin_bl I q (by simp))
    | _ => exact absurd (show false = true from hs) Bool.false_ne_true
  | str i =>
    obtain ⟨t, rfl⟩ := rx
    cases y with
    | non => cases ry; exact PySem.EqNone.eq_str_none (fin_bl I q (by simp))
    | bl j => cases ry; exact PySem.EqMixed.eq_str_bool (fin_bl I q (by simp))
    | int j => obtain ⟨t', rfl⟩ := ry; exact PySem.EqMixed.eq_str_int (fin_bl I q (by simp))
    | str j => obtain ⟨t', rfl⟩ := ry; exact eq_str (fin_bl I q dec_str)
    | _ => exact absurd (show false = true from hs) Bool.false_ne_true
  | byt i =>
    obtain ⟨t, rfl⟩ := rx
    cases y with
    | byt j => obtain ⟨t', rfl⟩ := ry; exact PySem.W.eq_bytes (fin_bl I q dec_byt)
    | _ => exact absurd (show false = true from hs) Bool.false_ne_true
  | _ => cases y <;> exact absurd (show false = true from hs) Bool.false_ne_true
theorem op_ne : OpR X (compareOp .NotEq) rNe := by
  intro pins s σ H x y v u Q I rx ry h
  obtain ⟨hs, q⟩ := h
  cases x with
  | non =>
    cases rx
    cases y with
    | non => cases ry; exact PySem.EqNone.ne_none_none (fin_bl I q (by simp))
    | bl j => cases ry; exact PySem.EqNone.ne_none_bool (fin_bl I q (by simp))
    | int j => obtain ⟨t', rfl⟩ := ry; exact PySem.EqNone.ne_none_int (fin_bl I q (by simp))
    | str j => obtain ⟨t', rfl⟩ := ry; exact PySem.EqNone.ne_none_str (fin_bl I q (by simp))
    | _ => exact absurd (show false = true from hs) Bool.false_ne_true
  | bl i =>
    cases rx
    cases y with
    | non => cases ry; exact PySem.EqNone.ne_bool_none (fin_bl I q (by simp))
    | bl j => cases ry; exact ne_bool (fin_bl I q (congrArg not dec_bl))
    | str j => obtain ⟨t', rfl⟩ := ry; exact PySem.EqMixed.ne_bool_str (fin_bl I q (by simp))
    | _ => exact absurd (show false = true from hs) Bool.false_ne_true
  | int i =>
    obtain ⟨t, rfl⟩ := rx
    cases y with
    | non => cases ry; exact PySem.EqNone.ne_int_none (fin_bl I q (by simp))
    | int j => obtain ⟨t', rfl⟩ := ry; exact ne_int (fin_bl I q (congrArg not dec_int))
    | str j => obtain ⟨t', rfl⟩ := ry; exact PySem.EqMixed.ne_int_str (fin_bl I q (by simp))
    | _ => exact absurd (show false = true from hs) Bool.false_ne_true
  | str i =>
    obtain ⟨t, rfl⟩ := rx
    cases y with
    | non => cases ry; exact PySem.EqNone.ne_str_none (fin_bl I q (by simp))
    | bl j => cases ry; exact PySem.EqMixed.ne_str_bool (fin_bl I q (by simp))
    | int j => obtain ⟨t', rfl⟩ := ry; exact PySem.EqMixed.ne_str_int (fin_bl I q (by simp))
    | str j => obtain ⟨t', rfl⟩ := ry; exact ne_str (fin_bl I q (congrArg not dec_str))
    | _ => exact absurd (show false = true from hs) Bool.false_ne_true
  | byt i =>
    obtain ⟨t, rfl⟩ := rx
    cases y with
    | byt j => obtain ⟨t', rfl⟩ := ry; exact PySem.W.ne_bytes (fin_bl I q (congrArg not dec_byt))
    | _ => exact absurd (show false = true from hs) Bool.false_ne_true
  | _ => cases y <;> exact absurd (show false = true from hs) Bool.false_ne_true

theorem op_lt : OpR X (compareOp .Lt) (rI0 fun i j => .bl (decide (i < j))) := opB0 fun _ _ _ _ _ _ _ q => lt_int q
theorem op_gt : OpR X (compareOp .Gt) (rI0 fun i j => .bl (decide (j < i))) := opB0 fun _ _ _ _ _ _ _ q => gt_int q
/-- the one string within the other -/
theorem op_in_str : OpR X (compareOp .In) (fun x y H Q => ∃ i j, x = .str i ∧ y = .str j ∧ Q (.bl (!(Builtin.Str.occurrences j i 0 j.length 1).isEmpty)) H) := by
  intro pins s σ H x y v u Q I rx ry h
  obtain ⟨i, j, rfl, rfl, q⟩ := h
  obtain ⟨t, rfl⟩ := rx
  obtain ⟨t', rfl⟩ := ry
  exact in_str (fin_bl I q rfl)

/-- is None, is not None: the right side a value none -/
theorem op_isN : OpR X (compareOp .Is) (fun x y H Q => y = .non ∧ Q (.bl (decide (x = .non))) H) := by
  intro pins s σ H x y v u Q I rx ry h
  obtain ⟨rfl, q⟩ := h
  cases ry
  refine is_none_gen (fin_bl I q ?_)
  cases x <;> first
    | (cases rx; rfl)
    | (obtain ⟨t, rfl⟩ := rx; rfl)

theorem op_notin_str : OpR X (compareOp .NotIn) (fun x y H Q => ∃ i j, x = .str i ∧ y = .str j ∧ Q (.bl (!(!(Builtin.Str.occurrences j i 0 j.length 1).isEmpty))) H) := by
  intro pins s σ H x y v u Q I rx ry h
  obtain ⟨i, j, rfl, rfl, q⟩ := h
  obtain ⟨t, rfl⟩ := rx
  obtain ⟨t', rfl⟩ := ry
  exact notIn_str (fin_bl I q rfl)


theorem nomark (b : Expr) {op : CmpOp} (h : op ≠ .In := by decide) (h2 : op ≠ .NotIn := by decide) : behindInMarks op b = false := by
  have e1 : (op == CmpOp.In) = false := by cases op <;> first | rfl | exact absurd rfl h
  have e2 : (op == CmpOp.NotIn) = false := by cases op <;> first | rfl | exact absurd rfl h2
  cases b <;> simp [behindInMarks, e1, e2]
/-- a comparison as a value; hm: nomark b, or (for in, not in) by with_unfolding_all rfl -/
theorem pe_cmpR {op : CmpOp} {r : R2} (ho : OpR X (compareOp op) r) (ha : PE X a ta) (hb : PE X b tb) (hm : behindInMarks op b = false) : PE X (.Compare a [op] [b] pos) (tOp r ta tb) := by
  intro pins s σ H Q I h
  exact wpAny_Compare1 (binT ha hb I h fun v u s2 x y H2 I2 rx ry q => ho pins s2 σ H2 x y v u Q I2 rx ry q) hm
/-- a reading of a value as a test -/
def tTest (t : TE) : TT := fun σ H Q => t σ H fun x H' => ∃ k, x = .bl k ∧ Q k H'
theorem pt_cmpR {op : CmpOp} {r : R2} (ho : OpR X (compareOp op) r) (ha : PE X a ta) (hb : PE X b tb) (hm : behindInMarks op b = false) : PT X (.Compare a [op] [b] pos) (tTest (tOp r ta tb)) := by
  intro pins s σ H Q I h
  refine wpAny_isTrue_Compare1 (thn (ha pins s σ H _ I h) fun v s1 ⟨x, H1, I1, r1, q1⟩ => thn (hb pins s1 σ H1 _ I1 q1) fun u s2 ⟨y, H2, I2, r2, q2⟩ =>
    thn (ho pins s2 σ H2 x y v u _ I2 r1 r2 q2) fun c s3 ⟨z, H3, I3, r3, k, e, q3⟩ => ?_) hm
  subst e
  cases r3
  exact wpAny_truthy_bool ⟨H3, I3, q3⟩

/-! ### truth -/
theorem line63 : (sizeLine : Nat) < 2 ^ 63 := by rw [sizeLine_eq]; decide

/-! ### strs and bytes -/
theorem op_add_str : OpR X (binaryOp .Add) (fun x y H Q => ∃ i j, x = .str i ∧ y = .str j ∧ i.length + j.length ≤ sizeLine ∧ Q (.str (i ++ j)) H) := by
  intro pins s σ H x y v u Q I rx ry h
  obtain ⟨i, j, rfl, rfl, hz, q⟩ := h
  obtain ⟨t, rfl⟩ := rx
  obtain ⟨t', rfl⟩ := ry
  exact add_str (fun t' tk => ⟨.str (i ++ j), H, I.tok _, ⟨_, rfl⟩, q⟩) hz


/-! ### scalar builtins, by CallR -/
theorem vals1 {x : V} {us : List Value} (r : Vals [x] us) : ∃ u, us = [u] ∧ RelV x u := by
  cases r with
  | cons r1 r2 => cases r2; exact ⟨_, rfl, r1⟩
theorem vals2 {x y : V} {us : List Value} (r : Vals [x, y] us) : ∃ u w', us = [u, w'] ∧ RelV x u ∧ RelV y w' := by
  cases r with
  | cons r1 r2 =>
    cases r2 with
    | cons r3 r4 => cases r4; exact ⟨_, _, rfl, r1, r3⟩
theorem call_str_int : CallR X (.type "str") (fun xs H Q => ∃ i, xs = [.int i] ∧ i.natAbs.log2 < 1920 ∧ Q (.str (toString i)) H) := by
  intro pins s σ H xs us Q I r h
  obtain ⟨i, rfl, hz, q⟩ := h
  obtain ⟨u, rfl, t, rfl⟩ := vals1 r
  exact PySem.P.str_of_int hz ⟨.str _, H, I.tok _, ⟨_, rfl⟩, q⟩
end
end L2

namespace L2
open PySem PySem.Spec PyProof.Rows

/-! ### an instance, its attributes a map -/
structure ObjM (h : Heap) (x dx C : Addr) (mA : Str → Option Value) : Prop where
  obj : h.get? x = some (PySem.W.instObj C dx)
  ns : h.Ns1 dx mA
  ne : dx ≠ x

theorem lookIn_ns {h : Heap} {dx : Addr} {mA : Str → Option Value} (n : h.Ns1 dx mA) : ∃ od, h.get? dx = some od ∧ ∀ name, PySem.W.lookIn name od = some (mA name) := by
  obtain ⟨o, es, ep, ho, hd, hk, _, hm⟩ := n
  refine ⟨o, ho, fun name => ?_⟩
  have e := hm name
  unfold nsFind findBy at e
  rw [← Array.find?_toList] at e
  unfold PySem.W.lookIn
  rw [hd]
  dsimp only
  split
  · rename_i y q
    rw [q] at e
    exact congrArg some e
  · rename_i q
    rw [q] at e
    have a : es.toList.any (·.refKey) = false := by
      rw [List.any_eq_false]
      intro y hy
      obtain ⟨z, t, hkey⟩ := hk y (Array.mem_toList_iff.mp hy)
      simp [DictEntry.refKey, hkey]
    have a' : ¬ es.toList.any (·.refKey) = true := by rw [a]; exact Bool.false_ne_true
    rw [if_neg a']
    exact congrArg some e

theorem ObjM.look {h : Heap} {x dx C : Addr} {mA : Str → Option Value} (I : ObjM h x dx C mA) : ∃ od, PySem.W.InstAt h x (PySem.W.instObj C dx) C (some od) ∧ ∀ name, PySem.W.lookIn name od = some (mA name) :=
  let ⟨od, ho, hl⟩ := lookIn_ns I.ns
  ⟨od, ⟨I.obj, rfl, rfl, ho⟩, hl⟩

section
variable {prog : Program} {w : World} {A : Around} {E : Value → Shared → Prop} {s : Shared} {K : PySem.W.Frag} {x dx C f : Addr} {mA : Str → Option Value} {name : Str} {v : Value}





end

/-! ### the attributes as a list of pairs -/

theorem RelO.some_of {v : V} {o : Option Value} (r : RelO (some v) o) : ∃ u, o = some u ∧ RelV v u := by
  cases o with
  | none => exact (show False from r).elim
  | some u => exact ⟨u, rfl, r⟩
theorem handed_of {v : V} {u : Value} (r : RelV v u) : PySem.W.handedIn u = true := by
  cases v with
  | non => cases (show u = Value.none from r); rfl
  | bl b => cases (show u = Value.bool b from r); rfl
  | int i => obtain ⟨t, e⟩ := (show ∃ t, u = Value.int i t from r); cases e; rfl
  | str x => obtain ⟨t, e⟩ := (show ∃ t, u = Value.str x t from r); cases e; rfl
  | byt b => obtain ⟨t, e⟩ := (show ∃ t, u = Value.bytes b t from r); cases e; rfl
  | flt b => obtain ⟨t, e⟩ := (show ∃ t, u = Value.float b t from r); cases e; rfl
  | ref a => cases (show u = Value.ref a from r); rfl
  | ty n => cases (show u = Value.type n from r); rfl

section
variable {P : Program} {w : World} {H H' : Hp} {h h' : Heap} {a C dx : Addr} {fs fs' : List (Str × V)}
theorem ins_get (hok : HOk P w H h) (e : H a = some (.ins C dx fs)) : ∃ mA, ObjM h a dx C mA ∧ (∀ f, RelO (fs.lookup f) (mA f)) ∧ PySem.Within mA (fs.map (·.1)) ∧ fs.length ≤ 1000 ∧ H dx = some (.own a) := by
  obtain ⟨d, z, ne, ob, mA, n, r, q⟩ := (show ObjOk P w H h a (.ins C dx fs) from hok a _ e)
  exact ⟨mA, ⟨ob, n, ne⟩, r, q, z, d⟩
end

/-! ### what of the text a class must have -/
structure Cls (K : PySem.W.Frag) (C : Addr) : Prop where
  pg : PySem.W.plainGet K C Str.empty = true
  hd : PySem.W.hasDictIn K C = true
  po : PySem.W.plainOver K C = true
  sa : PySem.W.findIn K (.ref C) "__setattr__" = some (some (.builtin "object.__setattr__"))
theorem Cls.get {K : PySem.W.Frag} {C : Addr} (c : Cls K C) (f : Str) : PySem.W.plainGet K C f = true := c.pg
/-- no class of it has the name -/
def NoAttr (K : PySem.W.Frag) (C : Addr) (f : Str) : Prop := PySem.W.findIn K (.ref C) f = some none

section
variable {X : Cx} {pins : List (Addr × Obj)} {σ : St} {H : Hp} {s : Shared} {a C dx : Addr} {fs : List (Str × V)} {f : Str} {v : V} {A : Around} {E : Value → Shared → Prop}






/-- e.f where nothing but the object is asked: through attributeBase (super) and the last hold -/
theorem attr_of {prog : Program} {w : World} {env : Env} {e : Expr} {f : Str} {pos : Pos} {s : Shared} {Q : Value → Shared → Prop} (hb : attributeBase e f env (eval e env) = eval e env)
    (h : wpAny (model prog w) A (eval e env) (fun o s₁ => wpAny (model prog w) A (getAttr o f true) Q E s₁) E s) : wpAny (model prog w) A (eval (.Attribute e f pos) env) Q E s :=
  Attribute_any_ h (by rw [arm_eval_Attribute, hb])
end

/-! ### readings and rules -/

section
variable {X : Cx} {o e value : Expr} {f : Str} {pos pos' tpos : Pos} {ta tv : TE}

end

/-! ### isinstance -/
section
variable {X : Cx} {pins : List (Addr × Obj)} {σ : St} {H : Hp} {s : Shared} {A : Around} {E : Value → Shared → Prop} {Q : Value → Shared → Prop} {c : Value} {b : Bool}
/-- the type of a value, as the fragment's deciders take it; for an instance its class -/
inductive TyOf (K : PySem.W.Frag) (H : Hp) : V → Value → Prop where
  | non : TyOf K H .non (.type "NoneType")
  | bl (x : Bool) : TyOf K H (.bl x) (.type "bool")
  | int (i : Int) : TyOf K H (.int i) (.type "int")
  | str (x : Str) : TyOf K H (.str x) (.type "str")
  | flt (x : UInt64) : TyOf K H (.flt x) (.type "float")
  | lst {a : Addr} {xs : List V} (e : H a = some (.lst xs)) : TyOf K H (.ref a) (.type "list")
  | frz {a : Addr} {o : Obj} {xs : List V} (e : H a = some (.frz o (.lst xs))) : TyOf K H (.ref a) (.type "list")
  | tup {a : Addr} {xs : List V} (e : H a = some (.tup xs)) : TyOf K H (.ref a) (.type "tuple")
  | dK {a : Addr} {kvs : List (Key × V)} (e : H a = some (.dK kvs)) : TyOf K H (.ref a) (.type "dict")
  | dT {a : Addr} {kvs : List (List Key × V)} (e : H a = some (.dT kvs)) : TyOf K H (.ref a) (.type "dict")
  | ins {a C dx : Addr} {fs : List (Str × V)} (e : H a = some (.ins C dx fs)) (cl : Cls K C) (ha : PySem.W.findIn K (.ref C) "__class__" = some (some (.builtin "object.__class__")))
      (hn : PySem.W.specialIn K (.builtin "object.__class__") "__get__" = some (some (.builtin "getset_descriptor.__get__"))) (htk : PySem.W.takesIn K (.builtin "object.__class__") = some true)
      (hm : PySem.W.mroIn K C (.type "object") = some true) : TyOf K H (.ref a) (.ref C)
end
end L2

namespace L2
open PySem PySem.Spec PyProof.Rows

/-! ### room -/
structure Room (k : Nat) (A : Around) : Prop where
  hd : A.handled = none
  dp : A.depth + 3 * k + 5 < recursionLimit
  un : A.units + 16 * k + 200 < cLine
theorem Room.mono {j k : Nat} {A : Around} (r : Room k A) (h : j ≤ k) : Room j A := ⟨r.hd, by have := r.dp; omega, by have := r.un; omega⟩
theorem Room.deeper {k : Nat} {A : Around} (r : Room (k + 1) A) (env : Env) : Room k (A.deeper env) :=
  ⟨r.hd, by have := r.dp; show A.depth + 1 + 3 * k + 5 < _; omega, by have := r.un; show A.units + 3 + 16 * k + 200 < _; omega⟩
theorem make_depth {A : Around} {C : Addr} {us : List Value} {kw : List (Str × Value)} : (A.under (.builtin "type.__call__" ⟨.ref C :: us, kw⟩)).depth = A.depth + 1 := by
  first | rfl | simp [Around.under, Code.weight, Code.isCreation, Code.isGuard, Code.isCaller, Code.frames, Code.isFrame, guardIds]
theorem make_units {A : Around} {C : Addr} {us : List Value} {kw : List (Str × Value)} : (A.under (.builtin "type.__call__" ⟨.ref C :: us, kw⟩)).units = A.units + 1 := by
  first | rfl | simp [Around.under, Code.cUnits, Code.frames, Code.isFrame]
theorem Room.make {k : Nat} {A : Around} (r : Room (k + 1) A) (C : Addr) (us : List Value) (kw : List (Str × Value)) : Room k (A.under (.builtin "type.__call__" ⟨.ref C :: us, kw⟩)) :=
  ⟨r.hd, by have := r.dp; rw [make_depth]; omega, by have := r.un; rw [make_units]; omega⟩
theorem Room.depth {k : Nat} {A : Around} (r : Room k A) : A.depth < recursionLimit := by have := r.dp; omega
theorem Room.units {k : Nat} {A : Around} (r : Room k A) : A.units + 64 < cLine := by have := r.un; omega

/-! ### argument lists and displays -/
def tNil : TA := fun _ H Q => Q [] H
def tCons (ta : TE) (tr : TA) : TA := fun σ H Q => ta σ H fun x H1 => tr σ H1 fun xs H2 => Q (x :: xs) H2
section
variable {X : Cx} {e : Expr} {es : List Expr} {te : TE} {t : TA} {pos : Pos}
theorem pa_nil : PA X [] tNil := fun _ _ _ _ H Q I h => Calls.spliced_nil ⟨[], H, I, .nil, h⟩
theorem pa_cons (ha : PE X e te) (hr : PA X es t) (hs : starEach (e :: es) X.env = (false, eval e X.env) :: starEach es X.env := by rfl) : PA X (e :: es) (tCons te t) := by
  intro pos pins s σ H Q I h
  rw [hs]
  show wpAny _ _ (spliced ((false, eval e X.env) :: backTo pos (starEach es X.env))) _ _ s
  refine Calls.spliced_cons (thn (ha pins s σ H _ I h) fun u s1 ⟨x, H1, I1, r1, q1⟩ => ?_)
  exact thn (hr pos pins s1 σ H1 _ I1 q1) fun us s2 ⟨xs, H2, I2, r2, q2⟩ => ⟨x :: xs, H2, I2, .cons r1 r2, q2⟩

/-- a tuple, a list of written items -/
def tTup (t : TA) : TE := fun σ H Q => t σ H fun xs H1 => xs.length ≤ sizeLine ∧ ∀ p, H1 p = none → Q (.ref p) (upd H1 p (.tup xs))
def tLst (t : TA) : TE := fun σ H Q => t σ H fun xs H1 => xs.length ≤ sizeLine ∧ ∀ p, H1 p = none → Q (.ref p) (upd H1 p (.lst xs))
theorem pe_tup {x1} (h : PA X es t) : PE X (.Tuple es x1 pos) (tTup t) := by
  intro pins s σ H Q I hq
  refine wpAny_Tuple_spliced (thn (h pos pins s σ H _ I hq) fun us s1 ⟨xs, H1, I1, r, z, q⟩ => ⟨by rw [← r.length]; exact z, ?_⟩)
  have hf : H1 s1.heap.objs.size = none := I1.hok.fresh (Nat.le_refl _)
  refine ⟨.ref s1.heap.objs.size, upd H1 s1.heap.objs.size (.tup xs), I1.laid (t' := s1.toks) (fun b u e => Heap.get?_push_of_some _ e) (Nat.le_refl _) ?_, rfl, q _ hf⟩
  exact ⟨z, us, r, ⟨_, Heap.get?_push_size _ rfl, rfl, _, rfl⟩⟩
theorem pe_lst (h : PA X es t) : PE X (.List es pos) (tLst t) := by
  intro pins s σ H Q I hq
  refine wpAny_List_spliced (thn (h pos pins s σ H _ I hq) fun us s1 ⟨xs, H1, I1, r, z, q⟩ => ⟨by rw [← r.length]; exact z, ?_⟩)
  have hf : H1 s1.heap.objs.size = none := I1.hok.fresh (Nat.le_refl _)
  refine ⟨.ref s1.heap.objs.size, upd H1 s1.heap.objs.size (.lst xs), I1.laid (t' := s1.toks) (fun b u e => Heap.get?_push_of_some _ e) (Nat.le_refl _) ?_, rfl, q _ hf⟩
  exact ⟨z, us, 0, r, Heap.get?_push_size _ rfl⟩
end

/-! ### what a def promises -/
/-- a def's promise: the bound arguments in the parameters' order, the heap, the wanted end, the wanted exception -/
abbrev Sp := List V → Hp → VK → XK → Prop
/-- how an exception lies behind a call (file 08 gives it): the callers' frames, abstract heap and state ahead of the call, the wish, the exception, the state -/
abbrev CXT := List Env → Hp → Shared → XK → Value → Shared → Prop

/-- the state at a call -/
structure Env0 (P : Program) (w : World) (K : PySem.W.Frag) (mg : Str → Option Value) (base : Heap) (A : Around) (outer : List Env) (s : Shared) (H : Hp) : Prop where
  frames : A.frames = some outer
  mod : Mod K mg base
  bs : ∀ b o, base.get? b = some o → s.heap.get? b = some o ∧ H b = none
  bsz : base.objs.size ≤ s.heap.objs.size
  funs : s.heap.FunFrames base outer
  frf : ∀ b ∈ frs outer, H b = none
  hok : HOk P w H s.heap
  bare : AllBare s.gens
/-- a call's end -/
def CE (outer : List Env) (P : Program) (w : World) (H : Hp) (s : Shared) (Q : VK) (u : Value) (s' : Shared) : Prop :=
  ∃ v H', s'.os = s.os ∧ AllBare s'.gens ∧ Un (frs outer) [] H H' s.heap s'.heap ∧ HOk P w H' s'.heap ∧ RelV v u ∧ Q v H'
def CR (CX : CXT) (outer : List Env) (P : Program) (w : World) (H : Hp) (s : Shared) (Q : VK) (E : XK) (r : Result) (s' : Shared) : Prop :=
  match r with
  | .ok (.ret u) => CE outer P w H s Q u s'
  | .ok _ => False
  | .error e => CX outer H s E e s'
structure FnOk (P : Program) (w : World) (K : PySem.W.Frag) (mg : Str → Option Value) (base : Heap) (CX : CXT) (k : Nat) (f : Addr) (fd : FuncData) (ps : List Str) (sp : Sp) : Prop where
  len : ∀ vs H Q E, sp vs H Q E → vs.length = ps.length
  run : ∀ (A : Around) (outer : List Env) (s : Shared) (H : Hp) (args : Args) (us : List Value) (vs : List V) (Q : VK) (E : XK), Room k A → Env0 P w K mg base A outer s H → BindsTo s fd args (ps.zip us) → Vals vs us → sp vs H Q E →
    codeAny (model P w) A (.call (.ref f) args) (CR CX outer P w H s Q E) s

theorem Env0.make {P : Program} {w : World} {K : PySem.W.Frag} {mg : Str → Option Value} {base : Heap} {A : Around} {outer : List Env} {s : Shared} {H : Hp} (e : Env0 P w K mg base A outer s H) (C : Addr) (us : List Value) (kw : List (Str × Value)) :
    Env0 P w K mg base (A.under (.builtin "type.__call__" ⟨.ref C :: us, kw⟩)) outer s H := ⟨by first | exact e.frames | (simpa [Around.under, Code.envs, Code.isFrame, pushEnvs] using e.frames), e.mod, e.bs, e.bsz, e.funs, e.frf, e.hok, e.bare⟩

section
variable {X : Cx} {pins : List (Addr × Obj)} {σ : St} {H : Hp} {s s' : Shared}
/-- from a body: what a callee wants -/
theorem Inv.env0 (I : Inv X pins σ H s) : Env0 X.prog X.w X.K X.mg X.base X.A X.stack s H :=
  ⟨I.ok.frames, I.ok.mod, I.bs, Nat.le_trans I.ok.bsz I.sz, I.stack, I.stkFree, I.hok, I.bare⟩
/-- behind a call -/
theorem Inv.after {Q : VK} {u : Value} (I : Inv X pins σ H s) (h : CE X.stack X.prog X.w H s Q u s') : EP X pins σ Q u s' := by
  obtain ⟨v, H', os, bare, un, hok, r, q⟩ := h
  obtain ⟨hh, g, d, t, os'⟩ := s'
  obtain rfl : os' = s.os := os
  exact ⟨v, H', I.call (h' := hh) (g' := g) (d' := d) (t' := t) (ch := []) un hok bare (fun b z => absurd z (by simp)), r, q⟩
end

/-! ### calls -/
/-- f(..): the written arguments, then the defaults dvs; E: what is wanted of an exception -/
def tCall (sp : Sp) (dvs : List V) (E : XK) (t : TA) : TE := fun σ H Q => t σ H fun vs H1 => sp (vs ++ dvs) H1 Q E

/-- how the parameters are bound: us the positional arguments, kw the keywords' values by name, ds the defaults that fill up -/
def Binds (K : PySem.W.Frag) (fd : FuncData) (ps : List Str) (ds : List Value) : Prop :=
  ∀ (s : Shared) (us : List Value), K.In s.heap → (us ++ ds).length = ps.length → BindsTo s fd ⟨us, []⟩ (ps.zip (us ++ ds))
/-- every parameter is given -/
theorem Binds.all {K : PySem.W.Frag} {fd : FuncData} {ps : List Str} (h : ∀ us : List Value, us.length = ps.length → bindArgs fd ⟨us, []⟩ = pure (ps.zip us)) : Binds K fd ps [] := fun s us _ hl => by
  rw [List.append_nil] at hl ⊢
  exact .of_eq (h us hl)

/-- an exception of a callee reaches what this body wants of exceptions -/
def Passes (CX : CXT) (X : Cx) (E : XK) : Prop := ∀ (pins : List (Addr × Obj)) (σ : St) (H : Hp) (s : Shared) (e : Value) (s' : Shared), Inv X pins σ H s → CX X.stack H s E e s' → X.xe e s'

section
variable {X : Cx} {CX : CXT} {k : Nat} {f C : Addr} {fd : FuncData} {ps : List Str} {sp : Sp} {dvs : List V} {ds : List Value} {E : XK} {x m : Str} {p pos apos : Pos} {e o : Expr} {es : List Expr} {ta : TE} {t : TA}

/-- the callee runs -/
theorem run_fn {pins : List (Addr × Obj)} {σ : St} {H : Hp} {s : Shared} {Q : VK} {us : List Value} {vs : List V} (F : FnOk X.prog X.w X.K X.mg X.base CX k f fd ps sp) (hr : Room k X.A) (hb : Binds X.K fd ps ds) (hd : Vals dvs ds) (hx : Passes CX X E)
    (I : Inv X pins σ H s) (r : Vals vs us) (h : sp (vs ++ dvs) H Q E) : wpAny (model X.prog X.w) X.A (call (.ref f) us) (EP X pins σ Q) X.xe s := by
  have r2 : Vals (vs ++ dvs) (us ++ ds) := r.append hd
  have hl : (us ++ ds).length = ps.length := by rw [← r2.length]; exact F.len _ _ _ _ h
  refine wpAny_call (codeAny_mono (F.run X.A X.stack s H ⟨us, []⟩ (us ++ ds) (vs ++ dvs) Q E hr I.env0 (hb s us I.kIn hl) r2 h) fun r s' hq => ?_)
  cases r with
  | error e => exact hx pins σ H s e s' I hq
  | ok fl =>
    cases fl with
    | ret u => exact I.after hq
    | next => exact False.elim hq
    | brk => exact False.elim hq
    | cont => exact False.elim hq

theorem pe_call (F : FnOk X.prog X.w X.K X.mg X.base CX k f fd ps sp) (hr : Room k X.A) (hg : Gl X x) (hm : X.mg x = some (.ref f)) (hk : PySem.W.keepIn X.K (.ref f) = true) (hb : Binds X.K fd ps ds) (hd : Vals dvs ds) (hx : Passes CX X E)
    (ha : PA X (e :: es) t) (hdb : (x == ("__debug__" : Str)) = false := by decide) (he : starEach (e :: es) X.env = (false, eval e X.env) :: starEach es X.env := by rfl) (hpl : (backTo pos (starEach es X.env)).any (·.1) = false := by rfl) :
    PE X (.Call (.Name x p) (e :: es) [] pos) (tCall sp dvs E t) := by
  intro pins s σ H Q I h
  refine wpAny_Call_Name_kw (ld_glob I hg hm ?_ hdb)
  refine PySem.W.callWith_K (h₀ := X.base) I.ok.mod.kin hk (thn (ha pos pins s σ H _ I h) fun us s1 ⟨vs, H1, I1, r, q⟩ => ⟨I1.kIn, ?_⟩) he hpl
  exact run_fn F hr hb hd hx I1 r q



end

/-! ### keywords -/
section
variable {X : Cx} {CX : CXT} {k : Nat} {f C : Addr} {fd : FuncData} {ps ks : List Str} {sp : Sp} {E : XK} {x m : Str} {p pos apos kpos : Pos} {e o : Expr} {es : List Expr} {kws : List Keyword} {te ta : TE} {t tk : TA} {nm : Option Str}

variable {g : List Value → List Value → List Value} {gV : List V → List V → List V}
end

/-! ### a def's body keeps its promise -/
/-- names: the parameters first -/
structure FnScope (N P : List Str) (sc : Scope) : Prop where
  kind : sc.kind = .function
  co : sc.isCoroutine = false
  gen : sc.isGenerator = false
  nd : N.Nodup
  pre : N.take P.length = P
  par : ∀ x ∈ P, sc.names.lookup x = some .local ∨ sc.names.lookup x = some .cell
  nofree : ∀ y ∈ sc.names, y.2 ≠ .free

theorem bindL_out {kindOf : Str → Option NameKind} {x : Str} : ∀ {binds : List (Str × Value)} {m : Str → Option Value}, (∀ v, (x, v) ∉ binds) → bindL kindOf binds m x = m x
  | [], _, _ => rfl
  | (n, v) :: r, m, h => by
    unfold bindL
    rw [bindL_out fun w hw => h w (List.mem_cons_of_mem _ hw)]
    split
    · have : x ≠ n := by rintro rfl; exact h v List.mem_cons_self
      simp [this]
    · rfl
theorem bindC_out {kindOf : Str → Option NameKind} {x : Str} : ∀ {binds : List (Str × Value)} {m : Str → Option Value}, (∀ v, (x, v) ∉ binds) → bindC kindOf binds m x = m x
  | [], _, _ => rfl
  | (n, v) :: r, m, h => by
    unfold bindC
    rw [bindC_out fun w hw => h w (List.mem_cons_of_mem _ hw)]
    split
    · rfl
    · have : x ≠ n := by rintro rfl; exact h v List.mem_cons_self
      simp [this]
theorem bindL_get {kindOf : Str → Option NameKind} {x : Str} {v : Value} : ∀ {P : List Str} {vs : List Value} {i : Nat} {m : Str → Option Value}, P.Nodup → P[i]? = some x → vs[i]? = some v → kindOf x = some .local →
    bindL kindOf (P.zip vs) m x = some v
  | [], _, _, _, _, h, _, _ => by simp at h
  | _ :: _, [], _, _, _, _, h, _ => by simp at h
  | p :: P, w :: vs, 0, m, nd, h1, h2, hk => by
    simp at h1 h2; subst h1; subst h2
    show bindL kindOf ((p, w) :: P.zip vs) m p = _
    unfold bindL
    rw [bindL_out fun v hv => (List.nodup_cons.mp nd).1 (List.of_mem_zip hv).1, if_pos hk]
    simp
  | p :: P, w :: vs, i + 1, m, nd, h1, h2, hk => by
    show bindL kindOf ((p, w) :: P.zip vs) m x = _
    unfold bindL
    exact bindL_get (i := i) (List.nodup_cons.mp nd).2 (by simpa using h1) (by simpa using h2) hk
theorem bindC_get {kindOf : Str → Option NameKind} {x : Str} {v : Value} : ∀ {P : List Str} {vs : List Value} {i : Nat} {m : Str → Option Value}, P.Nodup → P[i]? = some x → vs[i]? = some v → kindOf x ≠ some .local →
    bindC kindOf (P.zip vs) m x = some v
  | [], _, _, _, _, h, _, _ => by simp at h
  | _ :: _, [], _, _, _, _, h, _ => by simp at h
  | p :: P, w :: vs, 0, m, nd, h1, h2, hk => by
    simp at h1 h2; subst h1; subst h2
    show bindC kindOf ((p, w) :: P.zip vs) m p = _
    unfold bindC
    rw [bindC_out fun v hv => (List.nodup_cons.mp nd).1 (List.of_mem_zip hv).1, if_neg hk]
    simp
  | p :: P, w :: vs, i + 1, m, nd, h1, h2, hk => by
    show bindC kindOf ((p, w) :: P.zip vs) m x = _
    unfold bindC
    exact bindC_get (i := i) (List.nodup_cons.mp nd).2 (by simpa using h1) (by simpa using h2) hk

/-- the names' values at the entry -/
def start (N : List Str) (vs : List V) : St := vs.map some ++ List.replicate (N.length - vs.length) none

/-- the context of a def's body, at its entry; an exception leaves the frame, then lies as CX says -/
def cxOf (CX : CXT) (P : Program) (w : World) (K : PySem.W.Frag) (mg : Str → Option Value) (base : Heap) (N : List Str) (qual : Str) (scope : Scope) (f : Addr) (cd : Value) (A : Around) (outer : List Env) (s : Shared) (H : Hp) (E : XK) : Cx where
  prog := P
  w := w
  K := K
  mg := mg
  base := base
  A := A.deeper (envOfC qual scope s.heap.objs.size f cd)
  N := N
  s₀ := s
  H₀ := H
  env := envOfC qual scope s.heap.objs.size f cd
  outer := outer
  stack := envOfC qual scope s.heap.objs.size f cd :: outer
  ex := []
  calm := true
  fn := fun _ => true
  pn := []
  xe := fun e s' => wpAny (model P w) (A.deeper (envOfC qual scope s.heap.objs.size f cd)) (leaving (envOfC qual scope s.heap.objs.size f cd) e) (fun _ s'' => CX outer H s E e s'') (fun e' s'' => CX outer H s E e' s'') s'

theorem cell_has {sc : Scope} {n : Nat} {x : Str} (h : sc.names.lookup x = some .cell) : ∃ c, (cellsFrom n sc.names []).lookup x = some c := by
  have q := PySem.W.cellsFrom_some sc.names n [] (.inl h)
  exact Option.isSome_iff_exists.mp q

theorem inv_start {CX : CXT} {P : Program} {w : World} {K : PySem.W.Frag} {mg : Str → Option Value} {base : Heap} {N ps : List Str} {qual : Str} {scope : Scope} {f : Addr} {cd : Value} {A : Around} {outer : List Env} {s s1 : Shared} {H : Hp} {E : XK} {us : List Value} {vs : List V}
    (S : FnScope N ps scope) (hd : A.handled = none) (e0 : Env0 P w K mg base A outer s H) (hl : vs.length = ps.length) (r : Vals vs us)
    (x : InCallC s s.heap.objs.size (bindL (envOfC qual scope s.heap.objs.size f cd).kindOf (ps.zip us) fun _ => none) (cellsFrom (s.heap.objs.size + 1) scope.names []) (bindC (envOfC qual scope s.heap.objs.size f cd).kindOf (ps.zip us) fun _ => none) s1) :
    Inv (cxOf CX P w K mg base N qual scope f cd A outer s H E) [] (start N vs) H s1 := by
  have hpl : ps.length ≤ N.length := by have := congrArg List.length S.pre; rw [List.length_take] at this; omega
  obtain ⟨h1, tk, rfl, hk⟩ := x.done
  have noA : ∀ b : Addr, b ∉ (cxOf CX P w K mg base N qual scope f cd A outer s H E).ex := fun b z => absurd (show b ∈ ([] : List Addr) from z) (by simp)
  refine ⟨⟨e0.mod, S.kind, rfl, rfl, Nat.le_refl _, fun y z c h1 h2 => ?_, fun y hy => ?_, fun y c _ h => ?_, fun _ => hd, Around.frames_deeper e0.frames, .inr ⟨rfl, rfl⟩, fun b z => absurd z (noA b), e0.bs, e0.bsz, fun b _ _ => noA b, fun b z => absurd z (noA b), e0.funs, e0.frf⟩,
    rfl, e0.bare, Un.kept hk, ⟨_, x.toInCall.ns, fun i y v h1 h2 h3 => ?_⟩, fun y c h => ⟨_, x.cell y c h⟩, e0.hok.fresh (Nat.le_refl _), fun y c h => ?_, fun p hp => absurd (show p ∈ ([] : List (Addr × Obj)) from hp) (by simp), e0.hok.kept hk, ?_⟩
  · exact name_of_addr x.apart (PySem.mem_of_lookup h1) (PySem.mem_of_lookup h2)
  · have hy : scope.names.lookup y = some .cell ∨ scope.names.lookup y = some .free := hy
    rcases hy with hy | hy
    · exact cell_has hy
    · exact absurd rfl (S.nofree _ (PySem.mem_of_lookup hy))
  · exact Nat.le_of_lt (x.above y c (PySem.mem_of_lookup h))
  · have hi : i < vs.length := by
      unfold start at h2
      by_cases hi : i < vs.length
      · exact hi
      · rw [List.getElem?_append_right (by simpa using hi)] at h2
        rw [List.getElem?_replicate] at h2
        split at h2 <;> cases h2
    have ha : vs[i]? = some v := by
      unfold start at h2
      rw [List.getElem?_append_left (by simpa using hi), List.getElem?_map] at h2
      cases e : vs[i]? with
      | none => rw [e] at h2; cases h2
      | some a => rw [e] at h2; cases h2; rfl
    obtain ⟨u, hu, rv⟩ := r.get ha
    have hp : ps[i]? = some y := by
      rw [← S.pre, List.getElem?_take_of_lt (by omega)]; exact h1
    have ndP : ps.Nodup := by rw [← S.pre]; exact S.nd.sublist (List.take_sublist _ _)
    refine ⟨u, rv, ?_⟩
    rcases S.par y (List.mem_of_getElem? hp) with k | k
    · exact .inl ⟨k, bindL_get ndP hp hu k⟩
    · obtain ⟨c, e⟩ := cell_has (n := s.heap.objs.size + 1) k
      refine .inr ⟨.inl k, c, e, ?_⟩
      have q := x.cell y c e
      rw [bindC_get ndP hp hu (by show scope.names.lookup y ≠ _; rw [k]; decide)] at q
      exact q
  · exact e0.hok.fresh (Nat.le_of_lt (x.above y c (PySem.mem_of_lookup h)))
  · unfold start
    show _ = N.length
    rw [List.length_append, List.length_map, List.length_replicate]
    omega

/-- THE RULE: a def (or a method) of the text, by its body. The body's reading t is chosen for each entry; it is run at the parameters' values -/
theorem fn_of {CX : CXT} {P : Program} {w : World} {K : PySem.W.Frag} {mg : Str → Option Value} {base : Heap} {k : Nat} {f : Addr} {name qual : Str} {params : Arguments} {body : List Stmt} {scope : Scope} {dV kV doc pm cdv ct oc : Value} {an od : Option Addr}
    {osl : Array (Option Value)} {N ps : List Str} {sp : Sp} (lk : K.lookup f = some ⟨oc, od, .func (PySem.W.fnOf name qual params body scope dV kV doc pm an cdv ct), osl⟩) (hcd : PySem.W.codeIn K cdv qual = true) (S : FnScope N ps scope)
    (len : ∀ vs H Q E, sp vs H Q E → vs.length = ps.length)
    (hbody : ∀ (A : Around) (outer : List Env) (s : Shared) (H : Hp) (vs : List V) (Q : VK) (E : XK), Room k (A.deeper (envOfC qual scope s.heap.objs.size f cdv)) → sp vs H Q E →
      ∃ t, PSs (cxOf CX P w K mg base N qual scope f cdv A outer s H E) body t ∧ t { nx := fun _ H' => Q .non H', rt := Q } (start N vs) H) :
    FnOk P w K mg base CX (k + 1) f (PySem.W.fnOf name qual params body scope dV kV doc pm an cdv ct) ps sp := by
  refine ⟨len, fun A outer s H args us vs Q E hr e0 hb r hsp => ?_⟩
  have hl := len _ _ _ _ hsp
  have KX : K.In s.heap := e0.mod.kin.keeps fun b o e => (e0.bs b o e).1
  have lim : s.heap.NoLimit := e0.mod.nolimit.keeps fun b o e => (e0.bs b o e).1
  have hkind : ∀ y ∈ ps.zip us, scope.names.lookup y.1 = some .local ∨ (scope.names.lookup y.1 = some .cell ∧ ((cellsFrom (s.heap.objs.size + 1) scope.names []).lookup y.1).isSome = true) := fun ⟨n, v⟩ hy => by
    rcases S.par n (List.of_mem_zip hy).1 with q | q
    · exact .inl q
    · exact .inr ⟨q, PySem.W.cellsFrom_some _ _ _ (.inl q)⟩
  refine codeAny_call_function hr.depth (KX _ _ lk) rfl S.co S.gen rfl (PySem.W.codeRec_of KX hcd) (hb _ _ _ _ ?_)
  refine wpAny_newFunctionEnv_cells S.kind hkind fun env he s1 x => ?_
  subst he
  refine ⟨lim.keeps x.toInCall.keep, codeAny_func ?_⟩
  obtain ⟨t, ht, hq⟩ := hbody A outer s H vs Q E (hr.deeper _) hsp
  have I : Inv (cxOf CX P w K mg base N qual scope f cdv A outer s H E) [] (start N vs) H s1 := inv_start S hr.hd e0 hl r x
  refine wpAny_mono (ht [] s1 (start N vs) H _ I hq) (fun fl s' hs => ?_) fun e s' hs => hs
  have fin : ∀ {σ' : St} {H' : Hp} {v : V} {u : Value}, Inv (cxOf CX P w K mg base N qual scope f cdv A outer s H E) [] σ' H' s' → RelV v u → Q v H' → CE outer P w H s Q u s' :=
    fun {σ' H' v u} J rv q => ⟨v, H', J.os, J.bare, J.base, J.hok, rv, q⟩
  cases fl with
  | ret u =>
    obtain ⟨v, σ', H', J, rv, q⟩ := hs
    exact fin J rv q
  | next =>
    obtain ⟨σ', H', J, q⟩ := hs
    exact fin (v := V.non) (u := Value.none) J rfl q
  | brk =>
    obtain ⟨_, _, _, q⟩ := hs
    exact False.elim q
  | cont =>
    obtain ⟨_, _, _, q⟩ := hs
    exact False.elim q
end L2

namespace L2
open PySem PySem.Spec PyProof.Rows
section
variable {X : Cx} {x : Str} {p pos : Pos} {e : Expr} {es : List Expr} {t : TA} {id T : String} {r : List V → Hp → VK → Prop}

def tCB (r : List V → Hp → VK → Prop) (t : TA) : TE := fun σ H Q => t σ H fun vs H1 => r vs H1 Q
/-- f(e, ..), f a built-in function -/
theorem pe_callB (hc : CallR X (.builtin id) r) (hg : Gl X x) (hm : X.mg x = none) (hv : bootBuiltins x = some (.builtin id)) (ha : PA X (e :: es) t) (hn : x ≠ "__name__" := by decide) (hdb : (x == ("__debug__" : Str)) = false := by decide)
    (he : starEach (e :: es) X.env = (false, eval e X.env) :: starEach es X.env := by rfl) (hpl : (backTo pos (starEach es X.env)).any (·.1) = false := by rfl) : PE X (.Call (.Name x p) (e :: es) [] pos) (tCB r t) := by
  intro pins s σ H Q I h
  refine wpAny_Call_Name_kw (ld_blt I hg hm hv ?_ hn hdb)
  exact PyProof.Rows.callWith_builtin1 (thn (ha pos pins s σ H _ I h) fun us s1 ⟨vs, H1, I1, r1, q1⟩ => hc pins s1 σ H1 vs us Q I1 r1 q1) he hpl
/-- T(e, ..), T a built-in type -/
theorem pe_callTy (hc : CallR X (.type T) r) (hg : Gl X x) (hm : X.mg x = none) (hv : bootBuiltins x = some (.type T)) (ha : PA X (e :: es) t) (hn : x ≠ "__name__" := by decide) (hdb : (x == ("__debug__" : Str)) = false := by decide)
    (he : starEach (e :: es) X.env = (false, eval e X.env) :: starEach es X.env := by rfl) (hpl : (backTo pos (starEach es X.env)).any (·.1) = false := by rfl) : PE X (.Call (.Name x p) (e :: es) [] pos) (tCB r t) := by
  intro pins s σ H Q I h
  refine wpAny_Call_Name_kw (ld_blt I hg hm hv ?_ hn hdb)
  exact PyProof.Rows.callWith_type1 (thn (ha pos pins s σ H _ I h) fun us s1 ⟨vs, H1, I1, r1, q1⟩ => hc pins s1 σ H1 vs us Q I1 r1 q1) he hpl
end
end L2

namespace HT
open PySem PyProof.Rows



section
open PySem.SeqAt
open PySem.AutoSeq1 (wpAny_loadPart')
open PySem.MeetsSeq PySem.MeetsSeq2 PySem.MeetsSeq3

end

section
variable {prog : Program} {w : World} {A : Around} {E : Value → Shared → Prop} {s : Shared}



/-! ### t[a:b], not the whole -/
/-- a slice's bound as a place among n (d where it is left out) -/
def sIx (n d : Nat) : Option Int → Nat
  | none => d
  | some v => if v < 0 then (v + (n : Int)).toNat else min v.toNat n

end
end HT

namespace L2
open PySem PySem.Spec PyProof.Rows

/-! ### the parts of a slice -/
abbrev TO := St → Hp → (Option Int → Hp → Prop) → Prop
/-- a slice's part (left out, or an int) -/
def PO (X : Cx) (e : Option Expr) (t : TO) : Prop :=
  ∀ (pins : List (Addr × Obj)) (s : Shared) (σ : St) (H : Hp) (Q : Option Int → Hp → Prop), Inv X pins σ H s → t σ H Q →
    wpAny (model X.prog X.w) X.A (evalPart e X.env) (fun u s' => ∃ o H', Inv X pins σ H' s' ∧ IsPart u o ∧ Q o H') X.xe s
def tNoPart : TO := fun _ H Q => Q none H
def tPart (t : TE) : TO := fun σ H Q => t σ H fun x H1 => ∃ i, x = .int i ∧ Q (some i) H1


section
variable {X : Cx} {e : Expr} {te : TE} {lo hi : Option Expr} {tl th : TO} {pos p2 : Pos}

theorem po_none : PO X none tNoPart := by
  intro pins s σ H Q I h
  rw [evalPart_none]
  exact wpAny_pure ⟨none, H, I, .none, h⟩
theorem po_some (h : PE X e te) : PO X (some e) (tPart te) := by
  intro pins s σ H Q I hw
  rw [evalPart_some]
  refine thn (h pins s σ H _ I hw) fun u s1 ⟨x, H1, I1, r1, q1⟩ => ?_
  obtain ⟨i, rfl, q⟩ := q1
  obtain ⟨t, rfl⟩ := r1
  exact ⟨some i, H1, I1, .int i t, q⟩

/-- what a slice of a value is, by values: the slice object stands at sl -/
def SlR (X : Cx) (r : V → Option Int → Option Int → Hp → VK → Prop) : Prop :=
  ∀ (pins : List (Addr × Obj)) (s : Shared) (σ : St) (H : Hp) (x : V) (v vl vu : Value) (lo hi : Option Int) (sl : Addr) (Q : VK), Inv X pins σ H s → RelV x v → s.heap.IsSliceOf sl vl vu .none → IsPart vl lo → IsPart vu hi → r x lo hi H Q →
    ∃ T id, typeLookup (.type T) "__getitem__" = pure (some (.builtin id)) ∧ s.TypeIs v T ∧ wpAny (model X.prog X.w) X.A (getItem v (.ref sl)) (EP X pins σ Q) X.xe s
def tSl (r : V → Option Int → Option Int → Hp → VK → Prop) (te : TE) (tl th : TO) : TE := fun σ H Q => te σ H fun x H1 => tl σ H1 fun l H2 => th σ H2 fun u H3 => r x l u H3 Q
/-- a[lo:hi], any a -/
theorem pe_slice {r : V → Option Int → Option Int → Hp → VK → Prop} (hr : SlR X r) (he : PE X e te) (hl : PO X lo tl) (hu : PO X hi th) : PE X (.Subscript e (.Slice lo hi none p2) pos) (tSl r te tl th) := by
  intro pins s σ H Q I h
  refine Subscript_ (thn (he pins s σ H _ I h) fun v s1 ⟨x, H1, I1, r1, q1⟩ => ?_)
  refine wpAny_Slice (thn (hl pins s1 σ H1 _ I1 q1) fun vl s2 ⟨l, H2, I2, pl, q2⟩ => thn (hu pins s2 σ H2 _ I2 q2) fun vu s3 ⟨u, H3, I3, pu, q3⟩ => ?_)
  rw [evalPart_none]
  refine wpAny_pure ?_
  have I4 : Inv X pins σ H3 { s3 with heap := s3.heap.push { cls := .type "slice", data := .fields #[vl, vu, .none] } } := I3.kept (t' := s3.toks) fun b ob q => Heap.get?_push_of_some _ q
  obtain ⟨T, id, hT, ht, hg⟩ := hr pins { s3 with heap := s3.heap.push { cls := .type "slice", data := .fields #[vl, vu, .none] } } σ H3 x v vl vu l u s3.heap.objs.size Q I4 r1 (Heap.IsSliceOf.new ..) pl pu q3
  show wpAny (model X.prog X.w) X.A (subscriptTail e (.Slice lo hi none p2) v (.ref s3.heap.objs.size)) (EP X pins σ Q) X.xe { s3 with heap := s3.heap.push { cls := .type "slice", data := .fields #[vl, vu, .none] } }
  exact tail_any (ops := [.ref s3.heap.objs.size, v]) ht hT hg (by with_unfolding_all rfl)

/-- the items of xs[lo:hi] -/
def cutV (xs : List V) (lo hi : Option Int) : List V := (xs.drop (HT.sIx xs.length 0 lo)).take (HT.sIx xs.length xs.length hi - HT.sIx xs.length 0 lo)
theorem cutV_length (xs : List V) (lo hi : Option Int) : (cutV xs lo hi).length ≤ xs.length := by
  unfold cutV
  rw [List.length_take, List.length_drop]
  omega

/-! ### t < u, t + u -/
end
end L2

namespace L2
open PySem PySem.Spec PyProof.Rows

/-! ### places -/
/-- the place that an index of any sign means -/
def ixN (n : Nat) (i : Int) : Option Nat := if 0 ≤ i then (if i < n then some i.toNat else none) else if -(n : Int) ≤ i then some (i + n).toNat else none
def atI {α : Type} (xs : List α) (i : Int) : Option α := (ixN xs.length i).bind fun j => xs[j]?
theorem ixN_seq {n : Nat} {i : Int} {j : Nat} (h : ixN n i = some j) : seqIndex? i n = some j ∧ j < n ∧ -(n : Int) ≤ i ∧ i < n := by
  unfold ixN at h
  by_cases h0 : 0 ≤ i
  · rw [if_pos h0] at h
    by_cases h1 : i < n
    · rw [if_pos h1] at h
      have e : i.toNat = j := Option.some.inj h
      exact ⟨by rw [seqIndex_of h0 h1, e], by omega, by omega, h1⟩
    · rw [if_neg h1] at h; cases h
  · rw [if_neg h0] at h
    by_cases h1 : -(n : Int) ≤ i
    · rw [if_pos h1] at h
      have e : (i + n).toNat = j := Option.some.inj h
      exact ⟨by rw [seqIndex_neg (by omega) h1, e], by omega, h1, by omega⟩
    · rw [if_neg h1] at h; cases h
theorem atI_get {α : Type} {xs : List α} {i : Int} {v : α} (h : atI xs i = some v) : ∃ j, seqIndex? i xs.length = some j ∧ xs[j]? = some v ∧ j < xs.length ∧ -(xs.length : Int) ≤ i ∧ i < xs.length := by
  unfold atI at h
  cases e : ixN xs.length i with
  | none => rw [e] at h; cases h
  | some j =>
    rw [e] at h
    obtain ⟨h1, h2, h3, h4⟩ := ixN_seq e
    exact ⟨j, h1, h, h2, h3, h4⟩
theorem atI_nat {α : Type} {xs : List α} {j : Nat} {v : α} (h : xs[j]? = some v) : atI xs (j : Int) = some v := by
  have hj : j < xs.length := (List.getElem?_eq_some_iff.mp h).1
  have e : ixN xs.length (j : Int) = some j := by
    unfold ixN
    rw [if_pos (by omega), if_pos (by omega)]; simp
  unfold atI; rw [e]; exact h
theorem atI_last {α : Type} (xs : List α) (v : α) : atI (xs ++ [v]) (-1) = some v := by
  have hl : (xs ++ [v]).length = xs.length + 1 := by simp
  have e : ixN (xs ++ [v]).length (-1) = some xs.length := by
    unfold ixN
    rw [hl, if_neg (by decide), if_pos (by omega)]
    congr 1
    omega
  unfold atI
  rw [e]
  show (xs ++ [v])[xs.length]? = some v
  simp

/-! ### what may be subscripted -/
/-- what stands as an index of a plain subscript -/
def PlainIx (b : Expr) : Prop := ∀ o i, subscripted b false o i = operate [o, i] (getItem o i)
/-- a subscript by values -/
def IxR (X : Cx) (r : R2) : Prop :=
  ∀ (value slice : Expr) (pins : List (Addr × Obj)) (s : Shared) (σ : St) (H : Hp) (x y : V) (v u : Value) (Q : VK), Inv X pins σ H s → RelV x v → RelV y u → r x y H Q →
    subscripted slice false v u = operate [v, u] (getItem v u) → wpAny (model X.prog X.w) X.A (subscriptTail value slice v u) (EP X pins σ Q) X.xe s
/-- a call of a builtin's method by values: the receiver, the arguments -/
def MtR (X : Cx) (id : String) (r : V → List V → Hp → VK → Prop) : Prop :=
  ∀ (pins : List (Addr × Obj)) (s : Shared) (σ : St) (H : Hp) (x : V) (xs : List V) (v : Value) (us : List Value) (Q : VK), Inv X pins σ H s → RelV x v → Vals xs us → r x xs H Q →
    wpAny (model X.prog X.w) X.A (call (.builtin id) (v :: us)) (EP X pins σ Q) X.xe s
section
variable {X : Cx} {a b : Expr} {ta tb : TE} {pos : Pos}
/-- a[b] -/
theorem pe_ix {r : R2} (hr : IxR X r) (ha : PE X a ta) (hb : PE X b tb) (hs : PlainIx b) : PE X (.Subscript a b pos) (tOp r ta tb) := by
  intro pins s σ H Q I h
  exact Subscript_ (binT ha hb I h fun v u s2 x y H2 I2 rx ry q => hr a b pins s2 σ H2 x y v u Q I2 rx ry q (hs _ _))

def rIxL (K : PySem.W.Frag) : R2 := fun x y H Q => ∃ p xs i v, x = .ref p ∧ y = .int i ∧ SqL K H p xs ∧ atI xs i = some v ∧ Q v H
def rIxT (K : PySem.W.Frag) : R2 := fun x y H Q => ∃ p xs i v, x = .ref p ∧ y = .int i ∧ SqT K H p xs ∧ atI xs i = some v ∧ Q v H
def rIxS : R2 := fun x y H Q => ∃ z i c, x = .str z ∧ y = .int i ∧ z.length ≤ sizeLine ∧ atI z.cps.toList i = some c ∧ Q (.str ⟨#[c]⟩) H
theorem ix_list : IxR X (rIxL X.K) := by
  intro value slice pins s σ H x y v u Q I rx ry h hs
  obtain ⟨p, xs, i, z, rfl, rfl, hq, he, q⟩ := h
  cases rx
  obtain ⟨t, rfl⟩ := ry
  obtain ⟨its, r, pl, hz⟩ := I.list hq
  obtain ⟨j, h1, h2, h3, h4, h5⟩ := atI_get he
  obtain ⟨w, ew, rw'⟩ := r.get h2
  have hl := r.length
  have hn := line63
  have fin : EP X pins σ Q w s := ⟨z, H, I, rw', q⟩
  by_cases h0 : 0 ≤ i
  · have hj : i.toNat = j := by
      rw [seqIndex_of h0 h5] at h1
      exact Option.some.inj h1
    exact item_listR pl.isList h0 (by omega) (by rw [hj]; simpa using ew) fin hs
  · have hj : (i + (its.toArray.size : Int)).toNat = j := by
      rw [seqIndex_neg (by omega) h4] at h1
      rw [List.size_toArray, ← hl]
      exact Option.some.inj h1
    exact subscriptTail_builtinR (x := w) pl.isList.typeIs slot_list_getitem.lookup
      (wpAny_getItem_list_neg (Q := fun r s' => r = w ∧ EP X pins σ Q r s') pl.isList (by omega) (by rw [List.size_toArray] <;> omega) (by omega) (by rw [hj]; simpa using ew) ⟨rfl, fin⟩) hs
theorem ix_tup : IxR X (rIxT X.K) := by
  intro value slice pins s σ H x y v u Q I rx ry h hs
  obtain ⟨p, xs, i, z, rfl, rfl, hq, he, q⟩ := h
  cases rx
  obtain ⟨t, rfl⟩ := ry
  obtain ⟨its, r, pl, hz⟩ := I.tuple hq
  obtain ⟨j, h1, h2, h3, h4, h5⟩ := atI_get he
  obtain ⟨w, ew, rw'⟩ := r.get h2
  have hl := r.length
  have hn := line63
  have fin : EP X pins σ Q w s := ⟨z, H, I, rw', q⟩
  exact subscriptTail_builtinR (x := w) pl.typeIs slot_tuple_getitem.lookup
    (getItem_tuple (j := j) (Q := fun r s' => r = w ∧ EP X pins σ Q r s') pl (by omega) (by omega) (by rw [List.size_toArray, ← hl]; exact h1) (by simpa using ew) ⟨rfl, fin⟩) hs
theorem ix_str : IxR X rIxS := by
  intro value slice pins s σ H x y v u Q I rx ry h hs
  obtain ⟨z, i, c, rfl, rfl, hz, he, q⟩ := h
  obtain ⟨t, rfl⟩ := rx
  obtain ⟨t', rfl⟩ := ry
  obtain ⟨j, h1, h2, h3, h4, h5⟩ := atI_get he
  have hl : z.cps.toList.length = z.length := by simp [Str.length]
  rw [hl] at h1 h4 h5
  have hn := line63
  exact tail_any (typeIs_str s z t) slot_str_getitem.lookup (getItem_str (c := c) (by
    have e1 : decide (i < -(2 ^ 63 : Int)) = false := decide_eq_false (by omega)
    have e2 : decide (i ≥ 2 ^ 63) = false := decide_eq_false (by omega)
    rw [e1, e2, Bool.or_false]) (by rw [h1]; simpa using h2) ⟨.str ⟨#[c]⟩, H, I.tok _, ⟨_, rfl⟩, q⟩) hs

/-! ### xs[i] = v, any sign -/
/-- the list's object behind a store -/
theorem mapSeq_set (its : List Value) (n j : Nat) (u : Value) : Obj.mapSeq (·.setIfInBounds j u) { cls := .type "list", data := .seq its.toArray n } = { cls := .type "list", data := .seq (its.set j u).toArray n } := by
  simp [Obj.mapSeq]
theorem Inv.lst {pins : List (Addr × Obj)} {σ : St} {H : Hp} {s : Shared} {p : Addr} {xs : List V} (I : Inv X pins σ H s) (h : H p = some (.lst xs)) :
    ∃ (its : List Value) (n : Nat), Vals xs its ∧ s.heap.get? p = some { cls := .type "list", data := .seq its.toArray n } ∧ xs.length ≤ sizeLine := by
  obtain ⟨z, its, n, r, e⟩ := I.hok p _ h
  exact ⟨its, n, r, e, z⟩
/-- the list at p is written by an update of its object -/
theorem Inv.lstUpd {pins : List (Addr × Obj)} {σ : St} {H : Hp} {s : Shared} {p : Addr} {xs ys : List V} {its its' : List Value} {n n' : Nat} {f : Obj → Obj} (I : Inv X pins σ H s) (h : H p = some (.lst xs))
    (ho : s.heap.get? p = some { cls := .type "list", data := .seq its.toArray n }) (hf : f { cls := .type "list", data := .seq its.toArray n } = { cls := .type "list", data := .seq its'.toArray n' }) (r : Vals ys its') (hz : ys.length ≤ sizeLine) (t : Nat) :
    Inv X pins σ (upd H p (.lst ys)) { s with heap := s.heap.update p f, toks := t } := by
  have e : (s.heap.update p f).get? p = some { cls := .type "list", data := .seq its'.toArray n' } := by
    rw [Heap.get?_update_self f ho (by rw [hf] <;> rfl), hf]
  refine I.write (x := p) (e := p) (by rw [h]; trivial) (.inl rfl) (fun b u hb q => (Heap.get?_update_other _ _ (Ne.symm hb)).trans q) ⟨_, e⟩ ?_
  exact ⟨hz, its', n', r, e⟩
def rSetL : V → V → V → Hp → (Hp → Prop) → Prop := fun o i v H Q => ∃ p xs k j, o = .ref p ∧ i = .int k ∧ H p = some (.lst xs) ∧ ixN xs.length k = some j ∧ Q (upd H p (.lst (xs.set j v)))
theorem set_list : PSet X rSetL := by
  intro pins s σ H o i v ov iv u Q I ro ri rv h
  obtain ⟨p, xs, k, j, rfl, rfl, hp, hj, q⟩ := h
  cases ro
  obtain ⟨t, rfl⟩ := ri
  obtain ⟨its, n, r, ho, hz⟩ := I.lst hp
  obtain ⟨h1, h2, h3, h4⟩ := ixN_seq hj
  have hl := r.length
  have hn := line63
  have I' : Inv X pins σ (upd H p (.lst (xs.set j v))) { s with heap := s.heap.update p (Obj.mapSeq (·.setIfInBounds j u)) } :=
    I.lstUpd hp ho (mapSeq_set its n j u) (r.set rv j) (by rw [List.length_set]; exact hz) s.toks
  by_cases h0 : 0 ≤ k
  · have hk : k.toNat = j := by
      rw [seqIndex_of h0 h4] at h1
      exact Option.some.inj h1
    exact PySem.W.ki_setAt ho h0 (by omega) (by rw [List.size_toArray, ← hl]; exact h4) (by rw [hk]; exact ⟨_, I', q⟩)
  · have hk : (k + (its.toArray.size : Int)).toNat = j := by
      rw [seqIndex_neg (by omega) h3] at h1
      rw [List.size_toArray, ← hl]
      exact Option.some.inj h1
    exact PySem.W.ki_setBack ho (by omega) (by rw [List.size_toArray, ← hl]; exact h3) (by omega) (by rw [hk]; exact ⟨_, I', q⟩)

/-! ### slices -/
theorem slice_bounds (lo hi : Option Int) (n : Nat) : (sliceBounds lo hi none n).1 = ((HT.sIx n 0 lo : Nat) : Int) ∧ (sliceBounds lo hi none n).2.1 = ((HT.sIx n n hi : Nat) : Int) ∧ (sliceBounds lo hi none n).2.2 = 1 := by
  refine ⟨?_, ?_, rfl⟩
  · cases lo with
    | none => simp [sliceBounds, HT.sIx]
    | some i =>
      simp only [sliceBounds, HT.sIx, Option.getD_none, show (1 : Int) > 0 by decide, if_true]
      by_cases h : i < 0
      · simp only [h, if_true] <;> omega
      · simp only [h, if_false] <;> omega
  · cases hi with
    | none => simp [sliceBounds, HT.sIx]
    | some i =>
      simp only [sliceBounds, HT.sIx, Option.getD_none, show (1 : Int) > 0 by decide, if_true]
      by_cases h : i < 0
      · simp only [h, if_true] <;> omega
      · simp only [h, if_false] <;> omega
theorem slicePick_cut (its : List Value) (lo hi : Option Int) : slicePick its.toArray lo hi none = ((its.drop (HT.sIx its.length 0 lo)).take (HT.sIx its.length its.length hi - HT.sIx its.length 0 lo)).toArray := by
  obtain ⟨h1, h2, h3⟩ := slice_bounds lo hi its.toArray.size
  unfold slicePick
  rw [h1, h2, h3]
  simp only [sliceRange_one, pick_run, List.size_toArray] <;> rfl
/-- xs[lo:hi] of a list: a new list -/
def rSlL (K : PySem.W.Frag) : V → Option Int → Option Int → Hp → VK → Prop := fun x lo hi H Q => ∃ a xs, x = .ref a ∧ SqL K H a xs ∧ ∀ p, H p = none → Q (.ref p) (upd H p (.lst (cutV xs lo hi)))
theorem sl_list : SlR X (rSlL X.K) := by
  intro pins s σ H x v vl vu lo hi sl Q I rx hs pl pu h
  obtain ⟨a, xs, rfl, hx, q⟩ := h
  cases rx
  obtain ⟨its, r, ht, hz⟩ := I.list hx
  have hlen := r.length
  refine ⟨"list", _, slot_list_getitem.lookup, ht.isList.typeIs, ?_⟩
  refine wpAny_getItem_list_slice ht.isList hs pl pu .none (by simp) ?_ (by rw [List.size_toArray] <;> omega)
  rw [slicePick_cut, ← hlen]
  refine ⟨.ref s.heap.objs.size, _, I.laid (t' := s.toks) (o := .lst (cutV xs lo hi)) (fun b ob q => Heap.get?_push_of_some _ q) (Nat.le_refl _) ?_, rfl, q _ (I.hok.fresh (Nat.le_refl _))⟩
  exact ⟨Nat.le_trans (cutV_length xs lo hi) hz, _, 0, (r.drop (HT.sIx xs.length 0 lo)).take (HT.sIx xs.length xs.length hi - HT.sIx xs.length 0 lo), Heap.get?_push_size _ rfl⟩

/-! ### in, not in: flat items -/
def flatV : V → Bool
  | .non => true
  | .bl _ => true
  | .int _ => true
  | .str _ => true
  | _ => false
/-- == of flat values -/
def eqV : V → V → Bool
  | .non, .non => true
  | .bl a, .bl b => a == b
  | .bl a, .int b => (if a then 1 else 0) == b
  | .int a, .bl b => a == (if b then 1 else 0)
  | .int a, .int b => a == b
  | .str a, .str b => a == b
  | _, _ => false
theorem eqAt_V {A : Around} {s : Shared} {y x : V} {u v : Value} (ry : RelV y u) (rx : RelV x v) (fy : flatV y = true) (fx : flatV x = true) : SeqAt.EqAt A s u v (eqV y x) := by
  cases y with
  | non =>
    cases ry
    cases x with
    | non => cases rx; exact SeqAt.EqAt.same _
    | bl b => cases rx; exact SeqAt.EqAt.none_bool b
    | int b => obtain ⟨t, rfl⟩ := rx; exact SeqAt.EqAt.none_int b t
    | str b => obtain ⟨t, rfl⟩ := rx; exact SeqAt.EqAt.none_str b t
    | _ => exact absurd (show false = true from fx) Bool.false_ne_true
  | bl a =>
    cases ry
    cases x with
    | non => cases rx; exact SeqAt.EqAt.bool_none a
    | bl b => cases rx; exact SeqAt.EqAt.bool_bool a b
    | int b => obtain ⟨t, rfl⟩ := rx; exact SeqAt.EqAt.bool_int a b t
    | str b => obtain ⟨t, rfl⟩ := rx; exact SeqAt.EqAt.bool_str a b t
    | _ => exact absurd (show false = true from fx) Bool.false_ne_true
  | int a =>
    obtain ⟨t', rfl⟩ := ry
    cases x with
    | non => cases rx; exact SeqAt.EqAt.int_none a t'
    | bl b => cases rx; exact SeqAt.EqAt.int_bool a t' b
    | int b => obtain ⟨t, rfl⟩ := rx; exact SeqAt.EqAt.int_int a t' b t
    | str b => obtain ⟨t, rfl⟩ := rx; exact SeqAt.EqAt.int_str a t' b t
    | _ => exact absurd (show false = true from fx) Bool.false_ne_true
  | str a =>
    obtain ⟨t', rfl⟩ := ry
    cases x with
    | non => cases rx; exact SeqAt.EqAt.str_none a t'
    | bl b => cases rx; exact SeqAt.EqAt.str_bool a t' b
    | int b => obtain ⟨t, rfl⟩ := rx; exact SeqAt.EqAt.str_int a t' b t
    | str b => obtain ⟨t, rfl⟩ := rx; exact SeqAt.EqAt.str_str a t' b t
    | _ => exact absurd (show false = true from fx) Bool.false_ne_true
  | _ => exact absurd (show false = true from fy) Bool.false_ne_true
/-- the items' answers, read off the values (a value's own answer does not lean on its token) -/
def eqU (x : V) (u : Value) : Bool := match u with
  | .none => eqV .non x
  | .bool b => eqV (.bl b) x
  | .int i _ => eqV (.int i) x
  | .str z _ => eqV (.str z) x
  | _ => false
theorem eqU_of {x y : V} {u : Value} (r : RelV y u) (f : flatV y = true) : eqU x u = eqV y x := by
  cases y with
  | non => cases r; rfl
  | bl b => cases r; rfl
  | int i => obtain ⟨t, rfl⟩ := r; rfl
  | str z => obtain ⟨t, rfl⟩ := r; rfl
  | _ => exact absurd (show false = true from f) Bool.false_ne_true
theorem any_eqU {x : V} : ∀ {xs : List V} {us : List Value}, Vals xs us → xs.all flatV = true → us.any (eqU x) = xs.any fun y => eqV y x
  | _, _, .nil, _ => rfl
  | y :: xs, u :: us, .cons r t, f => by
    rw [List.all_cons, Bool.and_eq_true] at f
    rw [List.any_cons, List.any_cons, eqU_of r f.1, any_eqU t f.2]
theorem mem_eqAt {A : Around} {s : Shared} {x : V} {v : Value} (rx : RelV x v) (fx : flatV x = true) : ∀ {xs : List V} {us : List Value}, Vals xs us → xs.all flatV = true → ∀ u ∈ us, SeqAt.EqAt A s u v (eqU x u)
  | _, _, .nil, _ => fun u hu => by cases hu
  | y :: xs, u :: us, .cons r t, f => fun u' hu => by
    rw [List.all_cons, Bool.and_eq_true] at f
    rcases List.mem_cons.mp hu with rfl | hu
    · rw [eqU_of r f.1]; exact eqAt_V r rx f.1 fx
    · exact mem_eqAt rx fx t f.2 u' hu
def inV (x : V) (xs : List V) : Bool := xs.any fun y => eqV y x
/-- x in a list or tuple of flat items -/
def rIn (K : PySem.W.Frag) (neg : Bool) : R2 := fun x y H Q => ∃ p xs, y = .ref p ∧ (SqL K H p xs ∨ SqT K H p xs) ∧ flatV x = true ∧ xs.all flatV = true ∧ Q (.bl (if neg then !inV x xs else inV x xs)) H
theorem op_in_seq : OpR X (compareOp .In) (rIn X.K false) := by
  intro pins s σ H x y v u Q I rx ry h
  obtain ⟨p, xs, rfl, hq, fx, fs, q⟩ := h
  cases ry
  rcases hq with hq | hq
  · obtain ⟨its, r, pl, hz⟩ := I.list hq
    refine SeqAt.in_listAt (eqU x) pl.isList (fun w hw => mem_eqAt rx fx r fs w (by simpa using hw)) ⟨.bl _, H, I, rfl, ?_⟩
    rw [show its.toArray.any (eqU x) = its.any (eqU x) by simp, any_eqU r fs]
    exact q
  · obtain ⟨its, r, pl, hz⟩ := I.tuple hq
    refine SeqAt.in_tupleAt (eqU x) pl (fun w hw => mem_eqAt rx fx r fs w (by simpa using hw)) ⟨.bl _, H, I, rfl, ?_⟩
    rw [show its.toArray.any (eqU x) = its.any (eqU x) by simp, any_eqU r fs]
    exact q
theorem op_notIn_seq : OpR X (compareOp .NotIn) (rIn X.K true) := by
  intro pins s σ H x y v u Q I rx ry h
  obtain ⟨p, xs, rfl, hq, fx, fs, q⟩ := h
  cases ry
  rcases hq with hq | hq
  · obtain ⟨its, r, pl, hz⟩ := I.list hq
    refine SeqAt.notIn_listAt (eqU x) pl.isList (fun w hw => mem_eqAt rx fx r fs w (by simpa using hw)) ⟨.bl _, H, I, rfl, ?_⟩
    rw [show its.toArray.any (eqU x) = its.any (eqU x) by simp, any_eqU r fs]
    exact q
  · obtain ⟨its, r, pl, hz⟩ := I.tuple hq
    refine SeqAt.notIn_tupleAt (eqU x) pl (fun w hw => mem_eqAt rx fx r fs w (by simpa using hw)) ⟨.bl _, H, I, rfl, ?_⟩
    rw [show its.toArray.any (eqU x) = its.any (eqU x) by simp, any_eqU r fs]
    exact q

/-! ### len, list(x), tuple(x) of any list or tuple that is read -/
theorem call_len_seq : CallR X (.builtin "len") (fun xs H Q => ∃ p ys, xs = [.ref p] ∧ (SqL X.K H p ys ∨ SqT X.K H p ys) ∧ Q (.int ys.length) H) := by
  intro pins s σ H xs us Q I r h
  obtain ⟨p, ys, rfl, hq, q⟩ := h
  obtain ⟨u, rfl, rx⟩ := vals1 r
  cases rx
  have hn := line63
  rcases hq with hq | hq
  · obtain ⟨its, r', pl, hz⟩ := I.list hq
    have hlen := r'.length
    exact Calls.call_len_list pl.isList (by simp only [List.size_toArray] <;> omega) ⟨.int ys.length, H, I.tok _, ⟨s.toks + 1, by rw [List.size_toArray, hlen]⟩, q⟩
  · obtain ⟨its, r', pl, hz⟩ := I.tuple hq
    have hlen := r'.length
    exact len_tuple pl (by simp only [List.size_toArray] <;> omega) ⟨.int ys.length, H, I.tok _, ⟨s.toks + 1, by rw [List.size_toArray, hlen]⟩, q⟩
theorem call_len_str : CallR X (.builtin "len") (fun xs H Q => ∃ z, xs = [.str z] ∧ z.length ≤ sizeLine ∧ Q (.int z.length) H) := by
  intro pins s σ H xs us Q I r h
  obtain ⟨z, rfl, hz, q⟩ := h
  obtain ⟨u, rfl, t, rfl⟩ := vals1 r
  have hn := line63
  exact len_str (by omega) ⟨.int z.length, H, I.tok _, ⟨_, rfl⟩, q⟩
theorem call_list_of : CallR X (.type "list") (fun xs H Q => ∃ p ys, xs = [.ref p] ∧ (SqL X.K H p ys ∨ SqT X.K H p ys) ∧ ∀ l, H l = none → Q (.ref l) (upd H l (.lst ys))) := by
  intro pins s σ H xs us Q I r h
  obtain ⟨p, ys, rfl, hq, q⟩ := h
  obtain ⟨u, rfl, rx⟩ := vals1 r
  cases rx
  have fin : ∀ (its : List Value), Vals ys its → ys.length ≤ sizeLine → ∀ (h' : Heap) (c' : Nat), (∀ b o', s.heap.get? b = some o' → h'.get? b = some o') →
      h'.get? s.heap.objs.size = some { cls := .type "list", dict := none, data := .seq its.toArray c', slots := #[] } → EP X pins σ Q (.ref s.heap.objs.size) { s with heap := h' } := fun its r' hz h' c' kp e =>
    ⟨.ref s.heap.objs.size, _, I.laid (t' := s.toks) kp (Nat.le_refl _) (show ObjOk X.prog X.w _ h' _ (.lst ys) from ⟨hz, its, c', r', e⟩), rfl, q _ (I.hok.fresh (Nat.le_refl _))⟩
  rcases hq with hq | hq
  · obtain ⟨its, r', pl, hz⟩ := I.list hq
    have hlen := r'.length
    obtain ⟨o, ho, hc, n, hd⟩ := pl.isList
    exact call_list_seq p (.inl rfl) ho hc hd (fun h' c' kp e => fin its r' hz h' c' kp e) (by simp only [List.size_toArray] <;> omega)
  · obtain ⟨its, r', pl, hz⟩ := I.tuple hq
    have hlen := r'.length
    obtain ⟨o, ho, hc, n, hd⟩ := pl
    exact call_list_seq p (.inr rfl) ho hc hd (fun h' c' kp e => fin its r' hz h' c' kp e) (by simp only [List.size_toArray] <;> omega)

/-! ### the call of a builtin's method: o.m(..) -/
/-- the value is of that builtin type -/
def tyV (K : PySem.W.Frag) (T : String) (x : V) (H : Hp) : Prop := match x with
  | .str _ => T = "str"
  | .int _ => T = "int"
  | .ref p => (T = "list" ∧ ∃ xs, SqL K H p xs) ∨ (T = "tuple" ∧ ∃ o, K.lookup p = some o ∧ o.cls = .type "tuple" ∧ o.dict = none) ∨
      (T = "dict" ∧ ((∃ kvs, H p = some (.dK kvs)) ∨ ∃ kvs, H p = some (.dT kvs))) ∨ (T = "set" ∧ ∃ S n, H p = some (.set S n))
  | _ => False
theorem tyV_is {pins : List (Addr × Obj)} {σ : St} {H : Hp} {s : Shared} {T : String} {x : V} {v : Value} (I : Inv X pins σ H s) (r : RelV x v) (ty : tyV X.K T x H) :
    s.TypeIs v T ∧ ∀ a, v = .ref a → ∃ ob, s.heap.get? a = some ob ∧ ob.dict = none := by
  cases x with
  | str z =>
    obtain ⟨t, rfl⟩ := r
    cases (show T = "str" from ty)
    exact ⟨typeIs_str s z t, fun _ e => nomatch e⟩
  | int i =>
    obtain ⟨t, rfl⟩ := r
    cases (show T = "int" from ty)
    exact ⟨typeIs_int s i t, fun _ e => nomatch e⟩
  | ref p =>
    cases r
    rcases ty with ⟨rfl, xs, hq⟩ | ⟨rfl, o, hk, hc, hd⟩ | ⟨rfl, hk⟩ | ⟨rfl, S, n, hk⟩
    · obtain ⟨its, _, pl, _⟩ := I.list hq
      refine ⟨pl.isList.typeIs, fun a e => ?_⟩
      cases e
      obtain ⟨o, n, e, c, hd, _⟩ := pl
      exact ⟨o, e, hd⟩
    · refine ⟨⟨o, I.kIn p o hk, hc⟩, fun a e => ?_⟩
      cases e
      exact ⟨o, I.kIn _ o hk, hd⟩
    · have z : ∃ o, s.heap.get? p = some o ∧ o.ExactDict := by
        rcases hk with ⟨kvs, hk⟩ | ⟨kvs, hk⟩
        · obtain ⟨_, _, _, _, o, _, _, e, ex, _⟩ := I.hok p _ hk
          exact ⟨o, e, ex⟩
        · obtain ⟨_, _, _, _, o, _, _, e, ex, _⟩ := I.hok p _ hk
          exact ⟨o, e, ex⟩
      obtain ⟨o, e, ex⟩ := z
      refine ⟨⟨o, e, ex.1⟩, fun a e2 => ?_⟩
      cases e2
      exact ⟨o, e, ex.2.1⟩
    · obtain ⟨o, _, _, _, e, ex, _⟩ := I.hok p _ hk
      refine ⟨⟨o, e, ex.1⟩, fun a e2 => ?_⟩
      cases e2
      exact ⟨o, e, ex.2.1⟩
  | _ => exact False.elim ty
def tBM (K : PySem.W.Frag) (T : String) (r : V → List V → Hp → VK → Prop) (to : TE) (t : TA) : TE := fun σ H Q => to σ H fun x H1 => tyV K T x H1 ∧ t σ H1 fun xs H2 => r x xs H2 Q
variable {o e : Expr} {es : List Expr} {to : TE} {t : TA} {name : Str} {apos cpos : Pos} {T id : String} {r : V → List V → Hp → VK → Prop}
theorem pe_bm (pa : PlainAttrs T) (slot : Slot T name id) (hty : typeOf (.builtin id) = pure (.type "method_descriptor")) (hm : MtR X id r) (ho : PE X o to) (ha : PA X (e :: es) t)
    (hbase : attributeBase o name X.env (eval o X.env) = eval o X.env := by rfl)
    (hfew : ((backTo cpos (starEach (e :: es) X.env)).all (fun x => !x.1) && (backToKw cpos (keywordEach [] X.env)).all (fun x => x.1.isSome)
      && decide ((e :: es).length + ([] : List Keyword).length + (if ([] : List Keyword).isEmpty then 0 else 1) < 30)) = true := by rfl)
    (hline : (apos.endLine == cpos.line) = true := by rfl) (hs : starEach (e :: es) X.env = (false, eval e X.env) :: starEach es X.env := by rfl) (hplain : (backTo cpos (starEach es X.env)).any (·.1) = false := by rfl) :
    PE X (.Call (.Attribute o name apos) (e :: es) [] cpos) (tBM X.K T r to t) := by
  intro pins s σ H Q I h
  refine wpAny_Call_method_late hbase hfew hline rfl (thn (ho pins s σ H _ I h) fun v s1 ⟨x, H1, I1, r1, ty, q1⟩ => ?_)
  obtain ⟨h1, h2⟩ := tyV_is I1 r1 ty
  refine ⟨T, id, pa, slot, hty, h1, h2, ?_⟩
  have hA := ha cpos pins s1 σ H1 _ I1 q1
  rw [hs] at hA ⊢
  refine Calls.callWith_builtin (by show (false || (backTo cpos (starEach es X.env)).any (·.1)) = false; rw [hplain] <;> rfl) (Calls.evalArgs_plain ?_)
  exact thn hA fun us s2 ⟨vs, H2, I2, r2, q2⟩ => hm pins s2 σ H2 x vs v us Q I2 r1 r2 q2
/- xs.append(e), list.index on a module's tuple .. are MtR facts of 06m -/
end
end L2

namespace L2
open PySem PySem.Spec PyProof.Rows

def MtM (X : Cx) (id : String) (r : V → List V → Hp → VK → Prop) : Prop :=
  ∀ (pins : List (Addr × Obj)) (s : Shared) (σ : St) (H : Hp) (x : V) (xs : List V) (v : Value) (us : List Value) (Q : VK), Inv X pins σ H s → RelV x v → Vals xs us → r x xs H Q →
    wpAny (model X.prog X.w) X.A (call (.builtin id) (v :: us)) (EP X pins σ Q) X.xe s

/-! ### lists of values -/
theorem Vals.one : ∀ {x : V} {us : List Value}, Vals [x] us → ∃ u, us = [u] ∧ RelV x u
  | _, _, .cons r .nil => ⟨_, rfl, r⟩

section
variable {X : Cx} {pins : List (Addr × Obj)} {σ : St} {H : Hp} {s : Shared} {l b : Addr} {xs ys zs : List V}

/-! ### the two steps: a tracked list is rewritten, a new list is laid -/
theorem Inv.lset {its its' : List Value} {n : Nat} {f : Array Value → Array Value} {t' : Nat} (I : Inv X pins σ H s) (hH : H l = some (.lst xs))
    (e : s.heap.get? l = some { cls := .type "list", data := .seq its.toArray n }) (hf : f its.toArray = its'.toArray) (hv : Vals ys its') (hz : ys.length ≤ sizeLine) :
    Inv X pins σ (upd H l (.lst ys)) { s with heap := s.heap.update l (Obj.mapSeq f), toks := t' } := by
  have q := PySem.IsL.update e f
  rw [hf] at q
  refine I.write (x := l) (e := l) (by rw [hH]; exact trivial) (.inl rfl) (fun b' u hb hu => (Heap.get?_update_other s.heap (Obj.mapSeq f) (Ne.symm hb)).trans hu) ⟨_, q⟩ ?_
  exact ⟨hz, its', _, hv, q⟩
theorem Inv.lnew {its : List Value} {t' : Nat} (I : Inv X pins σ H s) (hv : Vals ys its) (hz : ys.length ≤ sizeLine) :
    Inv X pins σ (upd H s.heap.objs.size (.lst ys)) { s with heap := s.heap.push { cls := .type "list", data := .seq its.toArray }, toks := t' } :=
  I.laid (fun _ _ q => Heap.get?_push_of_some _ q) (Nat.le_refl _) ⟨hz, its, 0, hv, Heap.get?_push_size _ rfl⟩
theorem Inv.fresh (I : Inv X pins σ H s) : H s.heap.objs.size = none := I.hok.fresh (Nat.le_refl _)
theorem Inv.lstM (I : Inv X pins σ H s) (hH : H l = some (.lst xs)) : xs.length ≤ sizeLine ∧ ∃ (its : List Value) (n : Nat), Vals xs its ∧ xs.length = its.length ∧ s.heap.get? l = some { cls := .type "list", data := .seq its.toArray n } := by
  obtain ⟨z, its, n, r, e⟩ := I.hok l _ hH
  exact ⟨z, its, n, r, r.length, e⟩

theorem notLongL {n : Nat} (h : n ≤ sizeLine) : Builtin.List.listTooLong n = false := by
  unfold Builtin.List.listTooLong
  exact decide_eq_false (by omega)
end

section
variable {X : Cx}

/-! ### methods -/
def rAppend : V → List V → Hp → VK → Prop := fun x vs H Q => ∃ l xs y, x = .ref l ∧ vs = [y] ∧ H l = some (.lst xs) ∧ xs.length < sizeLine ∧ Q .non (upd H l (.lst (xs ++ [y])))
theorem mt_append : MtM X "list.append" rAppend := by
  intro pins s σ H x vs v us Q I rx rv h
  obtain ⟨l, xs, y, rfl, rfl, hH, hz, q⟩ := h
  cases rx
  obtain ⟨u, rfl, ru⟩ := rv.one
  obtain ⟨z, its, n, r, hl, e⟩ := I.lstM hH
  refine call_meets F.slot_list_append ⟨_, e, rfl⟩ F.entry_list_append (F.args_list_append_2 _ _) (PySem.list_append l its.toArray n u (by rw [List.size_toArray]; omega)) ⟨e, ?_⟩
  refine ⟨.non, _, I.lset (its' := its ++ [u]) hH e (by simp) (r.append (.cons ru .nil)) ?_, rfl, q⟩
  rw [List.length_append, List.length_singleton]
  omega

def rExtend : V → List V → Hp → VK → Prop := fun x vs H Q => ∃ l b xs zs, x = .ref l ∧ vs = [.ref b] ∧ H l = some (.lst xs) ∧ H b = some (.lst zs) ∧ xs.length + zs.length ≤ sizeLine ∧ Q .non (upd H l (.lst (xs ++ zs)))
theorem mt_extend : MtM X "list.extend" rExtend := by
  intro pins s σ H x vs v us Q I rx rv h
  obtain ⟨l, b, xs, zs, rfl, rfl, hH, hB, hz, q⟩ := h
  cases rx
  obtain ⟨u, rfl, ru⟩ := rv.one
  cases ru
  obtain ⟨z, its, n, r, hl, e⟩ := I.lstM hH
  obtain ⟨z2, its2, n2, r2, hl2, e2⟩ := I.lstM hB
  have hsz : its.toArray.size + its2.toArray.size ≤ sizeLine := by rw [List.size_toArray, List.size_toArray]; omega
  have hlong : ¬ (!its.toArray.isEmpty && Builtin.List.listTooLong (its.toArray.size + its2.toArray.size)) = true := by
    rw [notLongL hsz, Bool.and_false]
    exact Bool.false_ne_true
  refine call_meets F.slot_list_extend ⟨_, e, rfl⟩ F.entry_list_extend (F.args_list_extend_2 _ _)
    (AutoSeq1.list_extend_list_list_0 l its.toArray n b its2.toArray n2 hlong (by rw [List.size_toArray]; omega) (by omega)) ⟨e, e2, ?_⟩
  refine ⟨.non, _, I.lset (its' := its ++ its2) hH e (by simp) (r.append r2) ?_, rfl, q⟩
  rw [List.length_append]
  omega





/-! ### list + list, list += list, list * int -/
def rCat : R2 := fun x y H Q => ∃ l b xs zs, x = .ref l ∧ y = .ref b ∧ H l = some (.lst xs) ∧ H b = some (.lst zs) ∧ xs.length + zs.length ≤ sizeLine ∧ ∀ p, H p = none → Q (.ref p) (upd H p (.lst (xs ++ zs)))
theorem op_cat : OpR X (binaryOp .Add) rCat := by
  intro pins s σ H x y v u Q I rx ry h
  obtain ⟨l, b, xs, zs, rfl, rfl, hH, hB, hz, q⟩ := h
  cases rx
  cases ry
  obtain ⟨z, its, n, r, hl, e⟩ := I.lstM hH
  obtain ⟨z2, its2, n2, r2, hl2, e2⟩ := I.lstM hB
  refine PySem.P.add_list e e2 ?_ (by rw [List.size_toArray, List.size_toArray]; omega)
  have ea : its.toArray ++ its2.toArray = (its ++ its2).toArray := by simp
  rw [ea]
  exact ⟨.ref _, _, I.lnew (t' := s.toks) (r.append r2) (by rw [List.length_append]; omega), rfl, q _ I.fresh⟩

/-! ### del xs[i] -/
end

/-! ### xs[a:b] = ys -/
section
variable {prog : Program} {w : World} {A : Around} {E : Value → Shared → Prop} {s : Shared}
set_option maxRecDepth 100000 in
end

section
variable {X : Cx}
end
end L2

namespace Att
open PySem PySem.W PySem.Calls PyProof.Rows

/-! ### the script -/
theorem ints_of_wellAll {P : Params} {h : Heap} : ∀ (ns : List Int) (vs : List Value), WellAll P h vs (ns.map WData.int) → IntsAre vs ns := by
  intro ns
  induction ns with
  | nil =>
    intro vs w
    rw [List.map_nil] at w
    cases w
    exact .nil
  | cons n ns ih =>
    intro vs w
    rw [List.map_cons] at w
    cases w with
    | cons a b =>
      cases a
      exact .cons _ _ (ih _ b)

theorem script_of {l : OpenLaw} {n : Nat} (hn : l.most = some n) {P : Params} {h : Heap} {args : List WData} {vals : List Value}
    (hpre : l.row.toRowW.claim.pre args = true) (hwl : WellAll P h vals args) :
    ∃ a vs ns, vals = [Value.ref a] ∧ args = [WData.list (ns.map WData.int)] ∧ h.get? a = some { cls := .type "list", data := .seq vs.toArray } ∧ IntsAre vs ns ∧ ns.length ≤ n := by
  have hsh : WShape.hasAll [] args [.list .int] = true := (pre_splitW hpre).1
  have hc : l.pre.holds [] { args := args } = true := (pre_splitW hpre).2
  obtain ⟨d, r, rfl, h1, h2⟩ := hasAllW_cons hsh
  obtain rfl := hasAllW_nil h2
  obtain ⟨xs, rfl, h3⟩ := hasW_list h1
  obtain ⟨ns, rfl⟩ := items_int h3
  have hlen : ns.length ≤ n := by
    unfold OpenLaw.pre at hc
    have h4 : (WTm.not (.lt (.lit (.int (n : Int))) (.len (.arg 0)))).holds [] { args := [.list (ns.map .int)] } = true := by
      have h4 := (holds_andW hc).1
      rw [hn] at h4
      exact h4
    have h5 := condW_of h4 (w_not (w_lt w_lit (w_len_list (w_arg rfl))))
    rw [List.length_map] at h5
    refine Nat.le_of_not_lt fun q => ?_
    have q' : (n : Int) < ((ns.length : Nat) : Int) := by omega
    first
      | (rw [decide_eq_true q'] at h5; exact absurd h5 (by decide))
      | (simp at h5; omega)
  cases hwl with
  | cons w1 w2 =>
    cases w2
    cases w1 with
    | list ho hall => exact ⟨_, _, ns, rfl, rfl, ho, ints_of_wellAll ns _ hall, hlen⟩

theorem post_true (l : OpenLaw) (args : List WData) : l.row.toRowW.claim.post args (.bool true) args = true :=
  postW_of (r := l.row.toRowW) (X := (true == true))
    (show WShape.has [] (.bool true) .bool = true by first | rfl | decide | simp [WShape.has, WShape.arms, WShape.armsAll])
    (show (WTm.eq .res (.lit (.bool true))).value [] { args := args, res := some (.bool true), after := args } = some (.bool (true == true)) from w_eq_bool (w_res rfl) w_lit) rfl

/-! ### the attachment: holds_open's last premise (the goal 'hc' behind k_head) from a wpAny of the law's body -/

/-- the same from a codeAny of the CALL (for a layer whose function contracts speak of calls) -/
theorem attach_call {l : OpenLaw} {n : Nat} {q : Program} {loose : List Str} {XP : (Str → Option Value) → Heap → Prop} {YP : World → Heap → Prop} {d : DefRec}
    (hn : l.most = some n) (hdf : d.params.defaults = [])
    (call : ∀ (w : World) (s₀ s₁ : Shared) (mg mb : Str → Option Value) (fa : Addr) (o : Obj) (pm cd doc : Value) (a : Addr) (vs : List Value) (ns : List Int),
      Ground q loose [] XP w s₀ mg mb s₁.heap → YP w s₁.heap →
      s₁.heap.get? fa = some o → o.data = .func (docDef d.name d.params d.body d.scope pm cd doc) → s₁.heap.CodeRec cd d.name → mg d.name = some (.ref fa) →
      s₁.heap.get? a = some { cls := .type "list", data := .seq vs.toArray } → IntsAre vs ns → ns.length ≤ n → s₁.gens = #[] →
      codeAny (model l.prog w) callerA (.call (.ref fa) ⟨[.ref a], []⟩) (fun r s' => r = .ok (.ret (.bool true)) ∧ OldK s₁.heap s'.heap ∧ s'.os = s₁.os ∧ AllBare s'.gens) s₁) :
    WalkO q loose XP YP l.row.toRowW d [] (fun f vs => PySem.call f vs) := by
  intro w s₀ s₁ mg mb G Y fa o pm cd doc dV kV ho hd hcd hD hmg hg args vals as hpre hlay hrd hwl hlo
  obtain rfl : dV = .none := Dflts.none hD hdf
  obtain rfl : kV = .none := Dflts.noKw hD
  obtain ⟨a, vs, ns, rfl, rfl, hobj, hints, hlen⟩ := script_of hn hpre hwl
  refine enter_call (codeAny_mono (call w s₀ s₁ mg mb fa o pm cd doc a vs ns G Y ho (fd_plain hd) hcd hmg hobj hints hlen hg) fun r s' hq => ?_)
  obtain ⟨rfl, h2, h3, h4⟩ := hq
  exact ⟨.inl ⟨.bool true, .bool true, [], rfl, fun _ => rfl, .bool true, post_true l _, fun _ => ⟨List.Pairwise.nil, fun _ hm => (nomatch hm)⟩⟩, h2, h3, h4⟩


/-! ### rules over ANY heap (no ledger) from facts about the written part K: the library's own take a ledger (News) for what they write -/
section
variable {prog : Program} {w : World} {A : Around} {E : Value → Shared → Prop} {s : Shared} {K : Frag}





/-! the whole heap as the ledger: makes every rule that writes through a ledger a rule over any heap -/

end
end Att

namespace L2
open PySem PySem.Spec PyProof.Rows

theorem vals_ints : ∀ {vs : List Value} {ns : List Int}, IntsAre vs ns → Vals (ns.map V.int) vs
  | _, _, .nil => .nil
  | _, _, .cons n t h => .cons ⟨t, rfl⟩ (vals_ints h)

/-- nothing is tracked but the script, known to the object (or it is an object of the module) -/
def Only (H : Hp) : Prop := ∀ b, H b = none ∨ ∃ o xs, H b = some (.frz o (.lst xs))

/-- THE HEAD: the law's promise, at the heap behind the top. F, the promise of the law's def, may use that base is part of the heap (so K.In base, base.Ns mainGlobals mg stand in Mod) -/
theorem law_call {P : Program} {w : World} {K : PySem.W.Frag} {mg mb : Str → Option Value} {CX : CXT} {k : Nat} {fa a : Addr} {fd : FuncData} {x : Str} {sp : Sp} {s₁ : Shared} {vs : List Value} {ns : List Int}
    (KX : K.In s₁.heap) (hns : s₁.heap.Ns mainGlobals mg) (hb : s₁.heap.Ns builtinsNs mb) (hbb : ∀ x : Str, x ≠ "__name__" → mb x = bootBuiltins x) (hlim : s₁.heap.NoLimit) (hg : s₁.gens = #[])
    (ha : s₁.heap.get? a = some { cls := .type "list", data := .seq vs.toArray }) (hi : IntsAre vs ns) (hl : ns.length ≤ sizeLine) (hr : Room k callerA)
    (F : ∀ base : Heap, K.In base → base.Ns mainGlobals mg → FnOk P w K mg base CX k fa fd [x] sp) (hbind : ∀ (s : Shared) (u : Value), BindsTo s fd ⟨[u], []⟩ [(x, u)])
    (hsp : ∀ H : Hp, Only H → SqL K H a (ns.map V.int) → sp [.ref a] H (fun v _ => v = .bl true) fun _ _ _ => False)
    (hCX : ∀ H e s', CX [] H s₁ (fun _ _ _ => False) e s' → False) :
    codeAny (model P w) callerA (.call (.ref fa) ⟨[.ref a], []⟩) (fun r s' => r = .ok (.ret (.bool true)) ∧ OldK s₁.heap s'.heap ∧ s'.os = s₁.os ∧ AllBare s'.gens) s₁ := by
  have rv := vals_ints hi
  have lenV := hi.length
  -- from an abstract heap in which nothing but the script may be tracked
  have core : ∀ H : Hp, Only H → SqL K H a (ns.map V.int) → HOk P w H s₁.heap → (∀ b, H b ≠ none → b = a) → (H a ≠ none → K.lookup a = none) →
      codeAny (model P w) callerA (.call (.ref fa) ⟨[.ref a], []⟩) (fun r s' => r = .ok (.ret (.bool true)) ∧ OldK s₁.heap s'.heap ∧ s'.os = s₁.os ∧ AllBare s'.gens) s₁ := by
    intro H hO hS hok hA hK
    have base_of : ∀ {b : Addr} {o : Obj}, s₁.heap.get? b = some o → H b = none → (hidT s₁.heap H).get? b = some o := fun e n => hidT_get e n
    have noA : ∀ {b : Addr} {o : Obj} {es : Array DictEntry} {ep : Nat}, s₁.heap.get? b = some o → o.data = .dict es ep → H b = none := fun {b o es ep} e d => by
      cases q : H b with
      | none => rfl
      | some u =>
        have e' : b = a := hA b (by rw [q]; simp)
        subst e'
        rw [ha] at e; cases e
        have d' : Data.seq vs.toArray _ = Data.dict es ep := d
        cases d'
    have nsK : ∀ {b : Addr} {m : Str → Option Value}, s₁.heap.Ns b m → (hidT s₁.heap H).Ns b m := fun {b m} ⟨o, es, ep, e, d, r⟩ => ⟨o, es, ep, base_of e (noA e d), d, r⟩
    have hKb : K.In (hidT s₁.heap H) := fun b o e => base_of (KX b o e) (by
      cases q : H b with
      | none => rfl
      | some u =>
        have e' : b = a := hA b (by rw [q]; simp)
        subst e'
        rw [hK (by rw [q]; simp)] at e; cases e)
    have hM : Mod K mg (hidT s₁.heap H) := ⟨hKb, nsK hns, ⟨mb, nsK hb, hbb⟩, let ⟨mc, h1, h2⟩ := hlim; ⟨mc, nsK h1, h2⟩⟩
    have e0 : Env0 P w K mg (hidT s₁.heap H) callerA [] s₁ H := ⟨rfl, hM, fun b o e => of_hidT e, Nat.le_of_eq (hidT_size _ _), trivial, fun b hb => absurd (show b ∈ ([] : List Addr) from hb) (by simp), hok, .of_eq hg⟩
    refine codeAny_mono ((F _ hKb (nsK hns)).run callerA [] s₁ H ⟨[.ref a], []⟩ [.ref a] [.ref a] _ _ hr e0 (hbind s₁ (.ref a)) (.cons rfl .nil) (hsp H hO hS)) fun r s' h => ?_
    cases r with
    | error e => exact (hCX H e s' h).elim
    | ok fl =>
      cases fl with
      | next => exact False.elim h
      | brk => exact False.elim h
      | cont => exact False.elim h
      | ret u =>
        obtain ⟨v, H', os, bare, un, hok', r', q⟩ := h
        have q' : v = .bl true := q
        subst q'
        obtain rfl : u = Value.bool true := r'
        refine ⟨rfl, OldK.of_keep fun b o e => ?_, os, bare⟩
        cases q : H b with
        | none => exact un.keep b o e q (by intro z; exact absurd (show b ∈ ([] : List Addr) from z) (by simp)) (by simp)
        | some u =>
          rcases hO b with z | ⟨ob, xs, z⟩
          · rw [q] at z; cases z
          · have z2 := un.frzs b ob _ z
            obtain ⟨e1, _⟩ := hok b _ z
            obtain ⟨e2, _⟩ := hok' b _ z2
            rw [e] at e1; cases e1
            exact e2
  cases hk : K.lookup a with
  | some o =>
    -- the script is one of the module's own objects
    have e := KX a o hk
    rw [ha] at e
    cases e
    refine core (fun _ => none) (fun _ => .inl rfl) (.inr ⟨_, vs.toArray, _, hk, rfl, rfl, rfl, by rw [List.size_toArray, lenV]; exact hl, by simpa using rv⟩) (fun b u z => by have z' : (none : Option HO) = some u := z; cases z') (fun b z => absurd rfl z) fun z => absurd rfl z
  | none =>
    refine core (fun b => if b = a then some (.frz { cls := .type "list", data := .seq vs.toArray } (.lst (ns.map V.int))) else none) (fun b => ?_) (.inl (.inr ⟨{ cls := .type "list", data := .seq vs.toArray }, if_pos rfl⟩)) (fun b u z => ?_) (fun b z => ?_) fun _ => hk
    · by_cases hb : b = a
      · exact .inr ⟨_, _, if_pos hb⟩
      · exact .inl (if_neg hb)
    · by_cases hb : b = a
      · have z' := (if_pos hb).symm.trans z
        cases z'
        subst hb
        exact ⟨ha, by rw [List.length_map]; exact hl, vs, _, rv, ha⟩
      · have z' := (if_neg hb).symm.trans z
        cases z'
    · by_cases hb : b = a
      · exact hb
      · exact absurd (if_neg hb) z
end L2

namespace L2
open PySem PySem.Spec PyProof.Rows


/-- the goal that k_head leaves (case hc), from the law's promise. F gives the function object fd (K's own) once, then the promise over every base -/
theorem walk_of {l : PySem.W.OpenLaw} {n k : Nat} {q : Program} {loose : List Str} {XP : (Str → Option Value) → Heap → Prop} {YP : World → Heap → Prop} {d : DefRec} {K : Params → PySem.W.Frag} {CX : World → CXT} {sp : World → Sp} {x : Str}
    (hn : l.most = some n) (hn2 : n ≤ sizeLine) (hdf : d.params.defaults = []) (hr : Room k callerA)
    (hY : ∀ (w : World) (h : Heap), YP w h → (K w.params).In h)
    (F : ∀ (w : World) (mg : Str → Option Value) (fa : Addr) (h : Heap), (K w.params).In h → h.Ns mainGlobals mg → mg d.name = some (.ref fa) →
      ∃ fd : FuncData, (∀ (s : Shared) (u : Value), BindsTo s fd ⟨[u], []⟩ [(x, u)]) ∧
        ∀ base : Heap, (K w.params).In base → base.Ns mainGlobals mg → FnOk l.prog w (K w.params) mg base (CX w) k fa fd [x] (sp w))
    (hsp : ∀ (w : World) (H : Hp) (a : Addr) (ns : List Int), ns.length ≤ n → Only H → SqL (K w.params) H a (ns.map V.int) → sp w [.ref a] H (fun v _ => v = .bl true) fun _ _ _ => False)
    (hCX : ∀ (w : World) (H : Hp) (s : Shared) (e : Value) (s' : Shared), CX w [] H s (fun _ _ _ => False) e s' → False) :
    PySem.W.WalkO q loose XP YP l.row.toRowW d [] (fun f vs => PySem.call f vs) := by
  refine Att.attach_call hn hdf fun w s₀ s₁ mg mb fa o pm cd doc a vs ns G Y ho hd hcd hmg hobj hints hlen hg => ?_
  have KX := hY w _ Y
  obtain ⟨fd, hb, hF⟩ := F w mg fa _ KX G.T.g hmg
  exact law_call KX G.T.g G.T.b G.T.builtins G.T.nolimit hg hobj hints (Nat.le_trans hlen hn2) hr hF hb (fun H hO hS => hsp w H a ns hlen hO hS) fun H e s' => hCX w H s₁ e s'
end L2

/- THE LAST THEOREM (shape; LID, My.* are yours):
   My.Adr: a structure of the addresses that your layer names (classes, functions); My.Txt K t: a structure (Prop) of the equations over K;
   My.txt_mk : {K} {implicit addresses ..} (e1 : nsIn K mainGlobals "law" = some (some (.ref f))) (e2 : K.lookup f = some ⟨oc, od, .func (fnOf "law" "law" params body scope dV kV doc pm an cdv ct), sl⟩) (e3 : codeIn K cdv "law" = true) .. : ∃ t, My.Txt K t

set_option maxRecDepth 100000 in
set_option maxHeartbeats 0 in
theorem PySem.Challenge.cw_LID_holds : PySem.Challenge.rw_LID.Holds := by
  w_on; o_law; k_head; (case hw => w_witness2)
  k_fill
  refine L2.walk_of (l := PySem.Challenge.rw_LID) (n := 63) (k := 40) (x := "script") (CX := fun w => ..) (sp := fun _ => My.sp_law) rfl (by decide) rfl ⟨rfl, by decide, by decide⟩ (fun w h Y => PySem.W.kIn_of Y) ?F ?S ?C
  case F =>
    intro w mg fa h KX G hmg
    have T : ∃ t, My.Txt (L2.KOf KX) t := by
      dsimp only [L2.KOf]                          -- K must stand as «<heap const> w.params» for k_is
      refine' My.txt_mk ?e1 ?e2 ?e3 ..
      (case e1 => PySem.W.k_is)                    -- in the order: a name -> its address -> its object -> its parts
      (case e2 => PySem.W.k_is)
      ..
    obtain ⟨t, T⟩ := T
    have e0 := hmg.symm.trans (PySem.W.mg_of KX G T.law)
    cases e0                                       -- fa is the law's own address
    exact ⟨_, fun s u => .of_eq rfl, fun base kb nb => My.law_fn T kb nb⟩     -- if «.of_eq rfl» comes too early: refine' ⟨_, ?b, fun base kb nb => My.law_fn T kb nb⟩; exact fun s u => .of_eq rfl
  case S => exact fun w H a ns hl hO hS => ..
  case C => exact ..
(the tactic k_is has no namespace: write k_is) -/

/-! SHORT WORDS over the layer: a def of the text, its body, what a loop and a test want. -/
namespace L2
open PySem PySem.Spec PyProof.Rows

/-! ### the text by places -/
/-- the j-th statement of a class's body -/
def inClass (s : Stmt) (j : Nat) : Stmt := match s with
  | .ClassDef _ _ _ body _ _ _ _ _ _ _ => body.getD j (.Pass ⟨0, 0, 0, 0⟩)
  | _ => .Pass ⟨0, 0, 0, 0⟩
def defArgs (s : Stmt) : Arguments := match s with
  | .FunctionDef _ a _ _ _ _ _ _ _ _ => a
  | _ => { posonlyargs := [], args := [], vararg := none, kwonlyargs := [], kw_defaults := [], kwarg := none, defaults := [] }
def defBody (s : Stmt) : List Stmt := match s with
  | .FunctionDef _ _ b _ _ _ _ _ _ _ => b
  | _ => []
def defScope (s : Stmt) : Scope := match s with
  | .FunctionDef _ _ _ _ _ _ sc _ _ _ => sc
  | _ => { kind := .function, names := [], isGenerator := false, isCoroutine := false }

/-! ### no exception leaves a def -/
abbrev CX0 : CXT := fun _ _ _ _ _ _ => False
abbrev E0 : XK := fun _ _ _ => False
theorem pass0 {X : Cx} : Passes CX0 X E0 := fun _ _ _ _ _ _ _ h => h.elim

/-! ### a def (or method) of the text as it stands behind the top -/
section
variable {P : Program} {w : World} {K : PySem.W.Frag} {mg : Str → Option Value} {base : Heap}
end

/-! ### expressions in short: the name that stands in the i-th slot -/
section
variable {X : Cx}
theorem pv (i : Nat) {x : Str} {pos : Pos} (hN : X.N[i]? = some x := by rfl) (hv : Vis X.env.scope x := by first | exact Or.inl rfl | exact Or.inr (Or.inl rfl) | exact Or.inr (Or.inr rfl)) (hd : (x == ("__debug__" : Str)) = false := by decide)
    (hcd : (x == ("__classdict__" : Str)) = false := by decide) : PE X (.Name x pos) (tVar i) := pe_var hN hv hd hcd
end

/-! ### tests -/
theorem iteF {A B : Prop} (h : B) : if false = true then A else B := by
  rw [if_neg Bool.false_ne_true]
  exact h
theorem iteT {A B : Prop} (h : A) : if true = true then A else B := by
  rw [if_pos rfl]
  exact h
theorem ite2 {c A B : Prop} [Decidable c] (h1 : c → A) (h2 : ¬ c → B) : if c then A else B := by
  by_cases h : c
  · rw [if_pos h]
    exact h1 h
  · rw [if_neg h]
    exact h2 h

/-! ### heaps -/
/-- all that was tracked is as it was -/
def Same (H H' : Hp) : Prop := ∀ b o, H b = some o → H' b = some o
theorem Same.refl (H : Hp) : Same H H := fun _ _ h => h
theorem Same.trans {H H1 H2 : Hp} (a : Same H H1) (b : Same H1 H2) : Same H H2 := fun c o h => b c o (a c o h)
theorem Same.free {H H' : Hp} (e : Same H H') {l : Addr} (h : H' l = Option.none) : H l = Option.none := by
  cases q : H l with
  | none => rfl
  | some o =>
    rw [e l o q] at h
    cases h
theorem Same.seq {K : PySem.W.Frag} {H H' : Hp} {a : Addr} {xs : List V} (e : Same H H') (h : SqL K H a xs) : SqL K H' a xs := by
  rcases h with (h | ⟨o, h⟩) | h
  · exact .inl (.inl (e _ _ h))
  · exact .inl (.inr ⟨o, e _ _ h⟩)
  · exact .inr h

end L2

set_option maxRecDepth 100000
namespace Fly
open PySem
open Sem (wp)

/-- the heap behind a look at an exception: all but e, the old traceback and the frames is as it was -/
structure Lit (fr old : List Addr) (e T : Addr) (cls : Value) (od : Option Addr) (fl : Value) (h h' : Heap) : Prop where
  kp : ∀ b o, b ≠ e → b ∉ old → b ∉ fr → h.get? b = some o → h'.get? b = some o
  sl : ∀ b o, b ≠ e → b ∉ old → h.get? b = some o → ∃ sl, h'.get? b = some { o with slots := sl }
  ol : ∀ b o, h.get? b = some o → ∃ o', h'.get? b = some o'
  ex : ∃ oe vs, h'.get? e = some oe ∧ oe.cls = cls ∧ oe.dict = od ∧ oe.data = .fields vs ∧ vs[1]? = some (.ref T)
  tr : ∃ oT ts, h'.get? T = some oT ∧ oT.data = .fields ts ∧ ts[3]? = some fl
  new : h.get? T = none
  ne : T ≠ e

section
variable {M : Model} {A : Around} {E : Value → Shared → Prop} {s : Shared} {base : Heap} {env : Env} {outer : List Env} {L e : Addr}

theorem entry {oe : Obj} {vs : Array Value} {head : Value} {nx : Bool} {Q : Unit → Shared → Prop}
    (hfr : A.frames = some (env :: outer)) (hl : s.heap.FunFrames base (env :: outer)) (hf : env.frame = some L)
    (he : s.heap.get? e = some oe) (hd : oe.data = .fields vs) (hsz : 1 < vs.size)
    (h : ∀ h' T, Lit ((env :: outer).filterMap (·.frame)) [] e T oe.cls oe.dict (rawInt L) s.heap h' → Q () { s with heap := h' }) :
    wpAny M A (do let a ← frameOf env; let pl ← entryPlaceOf L nx; let b ← EntryCells.newEntry head a .none (rawInt L) .none pl; setField (.ref e) 1 b) Q E s := by
  have hne : e ∉ (env :: outer).filterMap (·.frame) := fun z => by
    obtain ⟨_, o, q, n⟩ := hl.mem z
    rw [he] at q; cases q
    exact n vs hd
  refine wpAny_bind (wpAny_frameOf_fun hfr hl hf fun h1 hs => ?_)
  obtain ⟨z1, z2, z3⟩ := hs
  refine wpAny_bind (wpAny_entryPlaceOf fun pl hpl => ?_)
  unfold EntryCells.newEntry newFields
  refine wpAny_bind (wpAny_newObj_type ?_ (hpl.sizeOk5 _ _ _ _ _))
  generalize hob : ({ cls := .type "traceback", dict := none, data := .fields ([head, .ref L, .none, rawInt L, .none] ++ (if pl.isEmpty then List.replicate 6 Value.none else pl)).toArray } : Obj) = ob
  have he1 : h1.get? e = some oe := (z2 e hne).trans he
  have he2 := Heap.get?_push_of_some (h := h1) ob he1
  refine wpAny_setField he2 hd hsz (h _ h1.objs.size ?_)
  have lt : e < h1.objs.size := Heap.lt_size he1
  have hTe : h1.objs.size ≠ e := Nat.ne_of_gt lt
  have d3 := Obj.data_mapFields hd (·.setIfInBounds 1 (Value.ref h1.objs.size))
  have he3 := Heap.get?_update_self (Obj.mapFields (·.setIfInBounds 1 (Value.ref h1.objs.size))) he2 (Obj.isFreed_of_fields d3)
  have hobf : ob.isFreed = false := by rw [← hob]; rfl
  have hT3 := (Heap.get?_update_other (h1.push ob) (Obj.mapFields (·.setIfInBounds 1 (Value.ref h1.objs.size))) (Ne.symm hTe)).trans (Heap.get?_push_size h1 hobf)
  have keep : ∀ b o, b ≠ e → h1.get? b = some o → ((h1.push ob).update e (Obj.mapFields (·.setIfInBounds 1 (Value.ref h1.objs.size)))).get? b = some o := fun b o q z => by
    rw [Heap.get?_update_other _ _ (Ne.symm q)]
    exact Heap.get?_push_of_some _ z
  have sl : ∀ b o, b ≠ e → s.heap.get? b = some o → ∃ sl, ((h1.push ob).update e (Obj.mapFields (·.setIfInBounds 1 (Value.ref h1.objs.size)))).get? b = some { o with slots := sl } := fun b o q z => by
    obtain ⟨sl, w⟩ := z3 b o z
    exact ⟨sl, keep b _ q w⟩
  refine ⟨fun b o q _ nf z => keep b o q ((z2 b nf).trans z), fun b o q _ z => sl b o q z, fun b o z => ?_, ⟨_, _, he3, Obj.cls_mapFields _ _, ?_, d3, by simp [hsz]⟩, ⟨ob, ([head, .ref L, .none, rawInt L, .none] ++ (if pl.isEmpty then List.replicate 6 Value.none else pl)).toArray, hT3, by rw [← hob], ?_⟩, ?_, hTe⟩
  · by_cases q : b = e
    · subst q; exact ⟨_, he3⟩
    · obtain ⟨sl, w⟩ := sl b o q z
      exact ⟨_, w⟩
  · obtain ⟨c, d, dt, sl⟩ := oe; cases dt <;> rfl
  · first | (simp; done) | (rcases hpl with rfl | ⟨_, _, _, _, _, _, _, rfl⟩ <;> simp)
  · exact Heap.get?_none_of_le (by rw [z1]; exact Nat.le_refl _)

/-- an exception that is new (no traceback yet), or flies (its traceback at T) -/
def Pre (h : Heap) (e : Addr) (old : List Addr) (cls : Value) (od : Option Addr) : Prop :=
  ∃ oe vs, h.get? e = some oe ∧ oe.cls = cls ∧ oe.dict = od ∧ oe.data = .fields vs ∧
    ((vs[1]? = some .none ∧ old = []) ∨ ∃ T oT ts, vs[1]? = some (.ref T) ∧ old = [T] ∧ T ≠ e ∧ h.get? T = some oT ∧ oT.data = .fields ts ∧ ts[3]? = some .none)

theorem note {old : List Addr} {cls : Value} {od : Option Addr} {Q : Unit → Shared → Prop}
    (hfr : A.frames = some (env :: outer)) (hl : s.heap.FunFrames base (env :: outer)) (hf : env.frame = some L) (hp : Pre s.heap e old cls od)
    (h : ∀ h' T, Lit ((env :: outer).filterMap (·.frame)) old e T cls od (rawInt L) s.heap h' → Q () { s with heap := h' }) : wpAny M A (noteFrame (.ref e) env) Q E s := by
  obtain ⟨oe, vs, he, hc, hdd, hd, hh⟩ := hp
  subst hc hdd
  unfold noteFrame
  simp only [hf]
  rcases hh with ⟨h1, rfl⟩ | ⟨T, oT, ts, h1, rfl, hTe, hT, hdT, h3⟩
  · refine wpAny_bind (wpAny_field he hd h1 ?_)
    rw [if_neg (by decide)]
    exact entry hfr hl hf he hd (Array.getElem?_eq_some_iff.mp h1).1 h
  · refine wpAny_bind (wpAny_field he hd h1 ?_)
    rw [if_pos (show (Value.ref T != Value.none) = true from by simp)]
    refine wpAny_bind (wpAny_field hT hdT h3 ?_)
    rw [if_neg (show ¬ ((Value.none == rawInt L) = true) from by simp [rawInt])]
    refine wpAny_bind (wpAny_setField hT hdT (Array.getElem?_eq_some_iff.mp h3).1 ?_)
    have ot : ∀ b, b ≠ T → (s.heap.update T (Obj.mapFields (·.setIfInBounds 3 Value.none))).get? b = s.heap.get? b := fun b hb => Heap.get?_update_other _ _ (Ne.symm hb)
    have isT := Heap.get?_update_self (Obj.mapFields (·.setIfInBounds 3 Value.none)) hT (Obj.isFreed_of_fields (Obj.data_mapFields hdT _))
    have nr : ∀ b o, s.heap.get? b = some o → (∀ vs, o.data ≠ .fields vs) → b ≠ T := fun b o z nf q => by
      rw [q, hT] at z; cases z; exact nf ts hdT
    refine entry hfr (hl.of_keeps fun b o z nf => ⟨o, (ot b (nr b o z nf)).trans z, rfl⟩) hf ((ot e (Ne.symm hTe)).trans he) hd (Array.getElem?_eq_some_iff.mp h1).1 fun h' T' x => h h' T' ?_
    refine ⟨fun b o q n nf z => x.kp b o q (by simp) nf ((ot b (by simpa using n)).trans z), fun b o q n z => x.sl b o q (by simp) ((ot b (by simpa using n)).trans z), fun b o z => ?_, x.ex, x.tr, ?_, x.ne⟩
    · by_cases q : b = T
      · subst q; exact x.ol _ _ isT
      · exact x.ol b o ((ot b q).trans z)
    · by_cases q : T' = T
      · subst q; have := x.new; rw [isT] at this; cases this
      · rw [← ot T' q]; exact x.new

/-- noted, and let down again -/
theorem lands {old : List Addr} {cls : Value} {od : Option Addr} {Q : Unit → Shared → Prop}
    (hfr : A.frames = some (env :: outer)) (hl : s.heap.FunFrames base (env :: outer)) (hf : env.frame = some L) (hp : Pre s.heap e old cls od)
    (h : ∀ h' T, Lit ((env :: outer).filterMap (·.frame)) old e T cls od .none s.heap h' → Q () { s with heap := h' }) :
    wpAny M A (noteFrame (.ref e) env) (fun _ s' => wpAny M A (setFlight (.ref e) none) Q E s') E s := by
  refine note hfr hl hf hp fun h1 T x => ?_
  obtain ⟨oe, vs, he, hc, hdd, hd, h1'⟩ := x.ex
  obtain ⟨oT, ts, hT, hdT, h3⟩ := x.tr
  have hsz : 3 < ts.size := (Array.getElem?_eq_some_iff.mp h3).1
  refine wpAny_setFlight_none (s := { s with heap := h1 }) he hd h1' hT hdT hsz (h _ T ?_)
  have ot : ∀ b, b ≠ T → (h1.update T (Obj.mapFields (·.setIfInBounds 3 Value.none))).get? b = h1.get? b := fun b hb => Heap.get?_update_other _ _ (Ne.symm hb)
  have isT := Heap.get?_update_self (Obj.mapFields (·.setIfInBounds 3 Value.none)) hT (Obj.isFreed_of_fields (Obj.data_mapFields hdT _))
  have nT : ∀ b o, s.heap.get? b = some o → b ≠ T := fun b o z q => by rw [q, x.new] at z; cases z
  refine ⟨fun b o q n nf z => (ot b (nT b o z)).trans (x.kp b o q n nf z), fun b o q n z => ?_, fun b o z => ?_, ⟨oe, vs, (ot e (Ne.symm x.ne)).trans he, hc, hdd, hd, h1'⟩, ⟨_, _, isT, Obj.data_mapFields hdT _, by simp [hsz]⟩, x.new, x.ne⟩
  · obtain ⟨sl, w⟩ := x.sl b o q n z
    exact ⟨sl, (ot b (nT b o z)).trans w⟩
  · obtain ⟨o', w⟩ := x.ol b o z
    exact ⟨o', (ot b (nT b o z)).trans w⟩

/-- let down once more: nothing changes -/
theorem down {T : Addr} {oe oT : Obj} {vs ts : Array Value} {Q : Unit → Shared → Prop} (he : s.heap.get? e = some oe) (hd : oe.data = .fields vs) (h1 : vs[1]? = some (.ref T))
    (hT : s.heap.get? T = some oT) (hdT : oT.data = .fields ts) (h3 : ts[3]? = some .none) (h : Q () s) : wpAny M A (setFlight (.ref e) none) Q E s := by
  refine wpAny_setFlight_none he hd h1 hT hdT (Array.getElem?_eq_some_iff.mp h3).1 ?_
  rw [Heap.update_setField_same s.heap T oT ts 3 .none hT hdT h3]
  exact h
end
end Fly

set_option Elab.async false
set_option linter.all false
set_option maxRecDepth 100000
/-! L3: what the hand layer lacks: exceptions that leave a def and are caught, own refusals raised -/
namespace L2
open PySem PySem.Spec PyProof.Rows

section
variable {P : Program} {w : World} {H H' : Hp} {h h' : Heap} {a : Addr} {o : HO}
theorem ObjOk.there (x : ObjOk P w H h a o) : ∃ ob, h.get? a = some ob := by
  cases o with
  | lst xs => obtain ⟨_, _, _, _, e⟩ := x; exact ⟨_, e⟩
  | tup xs => obtain ⟨_, _, _, ob, e, _⟩ := x; exact ⟨_, e⟩
  | dK kvs => obtain ⟨_, _, _, _, o, _, _, e, _⟩ := x; exact ⟨_, e⟩
  | dT kvs => obtain ⟨_, _, _, _, o, _, _, e, _⟩ := x; exact ⟨_, e⟩
  | set S n => obtain ⟨o, _, _, _, e, _⟩ := x; exact ⟨_, e⟩
  | ins C dx fs => obtain ⟨_, _, _, e, _⟩ := x; exact ⟨_, e⟩
  | own y => obtain ⟨_, e⟩ := x; exact ⟨_, e⟩
  | xd fs => obtain ⟨_, ⟨_, _, _, e, _⟩, _⟩ := x; exact ⟨_, e⟩
  | rng lo hi => obtain ⟨_, _, _, e⟩ := x; exact ⟨_, e⟩
  | frz ob u => obtain ⟨e, _⟩ := x; exact ⟨_, e⟩
  | tbl ps => exact ⟨_, (show h.get? a = some _ from x)⟩
  | met f y => exact ⟨_, (show h.get? a = some _ from x)⟩
  | ext φ => obtain ⟨_, ⟨_, e⟩, _⟩ := x; exact ⟨_, e⟩
theorem HOk.none_of (x : HOk P w H h) (e : h.get? a = none) : H a = none := by
  cases q : H a with
  | none => rfl
  | some u =>
    obtain ⟨ob, z⟩ := (x a u q).there
    rw [e] at z; cases z

variable {fr old fs : List Addr} {e T : Addr} {cls fl : Value} {od : Option Addr} {H₀ : Hp} {h₀ : Heap}
theorem un_lit (u : Un fs [] H₀ H h₀ h) (x : Fly.Lit fr old e T cls od fl h h') (he : h₀.get? e = none) (ho : ∀ t ∈ old, h₀.get? t = none) (hfr : ∀ b ∈ fr, b ∈ fs ∨ h₀.get? b = none) : Un fs [] H₀ H h₀ h' := by
  have ne : ∀ b o, h₀.get? b = some o → b ≠ e := fun b o q z => by rw [z, he] at q; cases q
  have no : ∀ b o, h₀.get? b = some o → b ∉ old := fun b o q z => by rw [ho b z] at q; cases q
  refine ⟨fun b o q n hb hx => ?_, fun b o q n hb hx => ?_, u.free, fun b o q hx => ?_, u.tups, u.frzs, u.tbls⟩
  · refine x.kp b o (ne b o q) (no b o q) (fun z => ?_) (u.keep b o q n hb hx)
    rcases hfr b z with z | z
    · exact hb z
    · rw [z] at q; cases q
  · obtain ⟨sl, e1⟩ := u.slot b o q n hb hx
    obtain ⟨sl', e2⟩ := x.sl b _ (ne b o q) (no b o q) e1
    exact ⟨sl', e2⟩
  · obtain ⟨o', e1⟩ := u.there b o q hx
    exact x.ol b o' e1
theorem hok_lit (k : HOk P w H h) (x : Fly.Lit fr old e T cls od fl h h') (he : H e = none) (ho : ∀ t ∈ old, H t = none) (hfr : ∀ b ∈ fr, H b = none) : HOk P w H h' := fun a o q =>
  (k a o q).stay (fun b u hb z => by
    have nb : H b ≠ none := by
      rcases hb with rfl | hb
      · rw [q]; intro z; cases z
      · rw [hb]; intro z; cases z
    exact x.kp b u (fun z => nb (z ▸ he)) (fun z => nb (ho b z)) (fun z => nb (hfr b z)) z) (fun _ q => q) fun _ _ q => q
theorem pre_lit (x : Fly.Lit fr old e T cls od .none h h') : Fly.Pre h' e [T] cls od := by
  obtain ⟨oe, vs, h1, h2, h3, h4, h5⟩ := x.ex
  obtain ⟨oT, ts, g1, g2, g3⟩ := x.tr
  exact ⟨oe, vs, h1, h2, h3, h4, .inr ⟨T, oT, ts, h5, rfl, x.ne, g1, g2, g3⟩⟩
end

/-- e flies: of the class cls, its dict at od; neither it nor its traceback stood in h₀, neither is tracked -/
def Flies (H : Hp) (h₀ h : Heap) (e : Addr) (cls : Value) (od : Option Addr) : Prop :=
  ∃ T, Fly.Pre h e [T] cls od ∧ h₀.get? e = none ∧ h₀.get? T = none ∧ H e = none ∧ H T = none
/-- how an exception lies behind a call -/
def CXE (P : Program) (w : World) : CXT := fun outer H s E e s' =>
  ∃ (a : Addr) (cls : Value) (od : Option Addr) (H' : Hp), e = .ref a ∧ s'.os = s.os ∧ AllBare s'.gens ∧ Un (frs outer) [] H H' s.heap s'.heap ∧ HOk P w H' s'.heap ∧ Flies H' s.heap s'.heap a cls od ∧ E cls od H'

/-- an exception that lies at e in a body's state (old: its traceback's place, if it has one) leaves the body -/
theorem leaves {P : Program} {w : World} {K : PySem.W.Frag} {mg : Str → Option Value} {base : Heap} {N : List Str} {qual : Str} {scope : Scope} {f : Addr} {cd : Value} {A : Around} {outer : List Env} {s : Shared} {H : Hp} {E : XK}
    {pins : List (Addr × Obj)} {σ : St} {H' : Hp} {s' : Shared} {e : Addr} {old : List Addr} {cls : Value} {od : Option Addr}
    (J : Inv (cxOf (CXE P w) P w K mg base N qual scope f cd A outer s H E) pins σ H' s') (hp : Fly.Pre s'.heap e old cls od) (n1 : s.heap.get? e = none) (n2 : ∀ t ∈ old, s.heap.get? t = none) (n3 : H' e = none) (n4 : ∀ t ∈ old, H' t = none)
    (q : E cls od H') : (cxOf (CXE P w) P w K mg base N qual scope f cd A outer s H E).xe (.ref e) s' := by
  show wpAny (model P w) (A.deeper (envOfC qual scope s.heap.objs.size f cd)) (leaving (envOfC qual scope s.heap.objs.size f cd) (.ref e)) _ _ s'
  unfold leaving
  refine wpAny_bind (Fly.lands (base := base) (L := s.heap.objs.size) (outer := outer) J.ok.frames J.stack rfl hp fun h' T' x => ?_)
  have sub := J.stkSub
  have fre := J.stkFree
  have hT : s.heap.get? T' = none := by
    cases z : s.heap.get? T' with
    | none => rfl
    | some o =>
      obtain ⟨o', e1⟩ := J.base.there T' o z (fun z => nomatch z)
      rw [x.new] at e1; cases e1
  refine ⟨e, cls, od, H', rfl, J.os, J.bare, un_lit J.base x n1 n2 (fun b hb => ?_), hok_lit J.hok x n3 n4 fre, ⟨T', pre_lit x, n1, hT, n3, J.hok.none_of x.new⟩, q⟩
  rcases List.mem_cons.mp (sub b hb) with z | z
  · exact .inr (by rw [z]; exact Heap.get?_none_of_le (Nat.le_refl _))
  · exact .inl z

section
variable {P : Program} {w : World} {K : PySem.W.Frag} {mg : Str → Option Value} {base : Heap} {N : List Str} {qual : Str} {scope : Scope} {f : Addr} {cd : Value} {A : Around} {outer : List Env} {s : Shared} {H : Hp} {E : XK}
/-- a callee's exception goes on to the caller's caller -/
theorem pass_on : Passes (CXE P w) (cxOf (CXE P w) P w K mg base N qual scope f cd A outer s H E) E := by
  intro pins σ H1 s1 e s' I hc
  obtain ⟨a, cls, od, H', rfl, h1, h2, h3, h4, ⟨T, hp, n1, n2, n3, n4⟩, q⟩ := hc
  have J := I.call' h1 h3 h4 h2 (fun _ z => nomatch z)
  have back : ∀ b : Addr, s1.heap.get? b = none → s.heap.get? b = none := fun b z => by
    cases y : s.heap.get? b with
    | none => rfl
    | some o =>
      obtain ⟨o', e1⟩ := I.base.there b o y (fun z => nomatch z)
      rw [z] at e1; cases e1
  exact leaves J hp (back a n1) (fun t ht => by rw [List.mem_singleton.mp ht]; exact back T n2) n3 (fun t ht => by rw [List.mem_singleton.mp ht]; exact n4) q

/-- the wish of a body about a refusal that it raises itself -/
def Raises (X : Cx) (E : XK) : Prop := ∀ (pins : List (Addr × Obj)) (σ : St) (H : Hp) (s : Shared) (e : Addr) (cls : Value) (od : Option Addr), Inv X pins σ H s → Fly.Pre s.heap e [] cls od → X.s₀.heap.get? e = none → H e = none → E cls od H → X.xe (.ref e) s
theorem raises_of : Raises (cxOf (CXE P w) P w K mg base N qual scope f cd A outer s H E) E := fun pins σ H' s' e cls od J hp n1 n3 q =>
  leaves J hp n1 (fun _ z => nomatch z) n3 (fun _ z => nomatch z) q

end
end L2

set_option Elab.async false
set_option linter.all false
set_option maxRecDepth 100000
/-! L3: comprehensions -/
namespace L2
open PySem PySem.Spec PyProof.Rows

/-- the block of a comprehension, as a body -/
def blk (X : Cx) (scope : Scope) (cl : List (Str × Addr)) (Nc : List Str) (s₀ : Shared) (H₀ : Hp) (C : Addr) (ex : List Addr) (pn : List (Addr × Obj)) : Cx :=
  { X with N := Nc, s₀ := s₀, H₀ := H₀, env := compEnvC scope cl C X.env, outer := X.stack, ex := ex, fn := fun _ => false, pn := pn, xe := fun _ _ => False }

/-- the names that the block has from around it: their slots there -/
def FvOk (X : Cx) (sc : Scope) (cl : List (Str × Addr)) : List Str → List (Option Nat) → Prop
  | [], [] => True
  | _ :: N, none :: f => FvOk X sc cl N f
  | x :: N, some j :: f => (X.N[j]? = some x ∧ X.env.scope.names.lookup x = some .cell ∧ cl.lookup x = X.env.cells.lookup x ∧ sc.names.lookup x = some .cell) ∧ FvOk X sc cl N f
  | _, _ => False
def ClSub (X : Cx) : List (Str × Addr) → Prop
  | [] => True
  | p :: r => X.env.cells.lookup p.1 = some p.2 ∧ ClSub X r
theorem ClSub.at {X : Cx} : ∀ {cl : List (Str × Addr)}, ClSub X cl → ∀ x c, cl.lookup x = some c → X.env.cells.lookup x = some c
  | [], _, x, c, h => by simp at h
  | (y, d) :: r, ⟨h1, h2⟩, x, c, h => by
    rw [List.lookup_cons] at h
    cases e : x == y with
    | true =>
      rw [e] at h
      have e' : x = y := by simpa using e
      cases h
      rw [e']; exact h1
    | false =>
      rw [e] at h
      exact ClSub.at h2 x c h
def sig (fv : List (Option Nat)) (σ : St) : St := fv.map fun o => o.bind fun j => (σ[j]?).bind id
theorem sig_at {fv : List (Option Nat)} {σ : St} {k : Nat} {v : V} (h : (sig fv σ)[k]? = some (some v)) : ∃ j, fv[k]? = some (some j) ∧ σ[j]? = some (some v) := by
  unfold sig at h
  rw [List.getElem?_map] at h
  cases e : fv[k]? with
  | none => rw [e] at h; cases h
  | some o =>
    rw [e] at h
    cases o with
    | none => cases h
    | some j =>
      refine ⟨j, rfl, ?_⟩
      have h' : (σ[j]?).bind id = some v := Option.some.inj h
      cases e2 : σ[j]? with
      | none => rw [e2] at h'; cases h'
      | some z => rw [e2] at h'; exact congrArg some h'
theorem FvOk.at {X : Cx} {sc : Scope} {cl : List (Str × Addr)} : ∀ {N : List Str} {fv : List (Option Nat)} {k j : Nat} {x : Str}, FvOk X sc cl N fv → fv[k]? = some (some j) → N[k]? = some x →
    X.N[j]? = some x ∧ X.env.scope.names.lookup x = some .cell ∧ cl.lookup x = X.env.cells.lookup x ∧ sc.names.lookup x = some .cell
  | [], [], k, _, _, _, h, _ => by simp at h
  | [], _ :: _, _, _, _, h, _, _ => h.elim
  | y :: N, [], _, _, _, h, _, _ => h.elim
  | y :: N, none :: f, 0, _, _, _, h, _ => by simp at h
  | y :: N, none :: f, k + 1, j, x, q, h, g => FvOk.at (show FvOk X sc cl N f from q) (by simpa using h) (by simpa using g)
  | y :: N, some i :: f, 0, j, x, q, h, g => by
    have e1 : i = j := by simpa using h
    have e2 : y = x := by simpa using g
    subst e1 e2
    exact q.1
  | y :: N, some i :: f, k + 1, j, x, q, h, g => FvOk.at q.2 (by simpa using h) (by simpa using g)

structure CompOk (X : Cx) (scope : Scope) (cl : List (Str × Addr)) (Nc : List Str) (fv : List (Option Nat)) : Prop where
  clos : closureFor scope X.env = pure cl
  ncell : ∀ y ∈ scope.names, y.2 ≠ .cell
  kind : scope.kind = .function
  names : ∀ y ∈ scope.names, y.2 = .local → scope.names.lookup y.1 = some .local
  sub : ClSub X cl
  has : scope.names.all (fun y => y.2 == .local || y.2 == .globalImplicit || (cl.lookup y.1).isSome) = true
  len : fv.length = Nc.length
  fvs : FvOk X (relabel scope X.env) cl Nc fv

theorem CompOk.cells {X : Cx} {scope : Scope} {cl : List (Str × Addr)} {Nc : List Str} {fv : List (Option Nat)} (O : CompOk X scope cl Nc fv) {x : Str}
    (h : (relabel scope X.env).names.lookup x = some .cell ∨ (relabel scope X.env).names.lookup x = some .free) : ∃ c, cl.lookup x = some c := by
  have key : ∃ k, (x, k) ∈ (relabel scope X.env).names ∧ (k = .cell ∨ k = .free) := by
    rcases h with h | h
    · exact ⟨_, PySem.mem_of_lookup h, .inl rfl⟩
    · exact ⟨_, PySem.mem_of_lookup h, .inr rfl⟩
  obtain ⟨k, hk, hk2⟩ := key
  unfold relabel at hk
  obtain ⟨⟨n, k0⟩, h0, e⟩ := List.mem_map.mp hk
  dsimp only at e
  have q := List.all_eq_true.mp O.has _ h0
  have hx : n = x := by
    split at e
    · exact congrArg Prod.fst e
    · exact congrArg Prod.fst e
  have hk0 : k0 = .free := by
    split at e
    · rename_i z
      simp only [Bool.and_eq_true, beq_iff_eq] at z
      exact z.1.1
    · have e2 : k0 = k := congrArg Prod.snd e
      rcases hk2 with z | z
      · exact absurd (e2.trans z) (O.ncell _ h0)
      · exact e2.trans z
  subst hx hk0
  have q' : (cl.lookup n).isSome = true := by simpa using q
  exact Option.isSome_iff_exists.mp q'

/-- a turn of the block's loop, letOwnedTupleGo and the tests in it -/
theorem comp_loop {prog : Program} {w : World} {A : Around} {R : Result → Shared → Prop} {s : Shared} {elt target iter : Expr} {ifs : List Expr} {scope : Scope} {pos : Pos} {it acc : Value} {env : Env} (I : Nat → Shared → Prop)
    (turn : ∀ n s, I n s → wpAny (model prog w) A (pyNext it) (fun r s₁ => match r with
      | none => R (.ok .next) s₁
      | some v => wpAny (model prog w) A (letOwnedTupleGo target it v) (fun _ s₁' => wpAny (model prog w) A (assign target env v) (fun _ s₂ =>
          wpAny (model prog w) A (forIn ifs true fun c r => if r = true then do let ok ← isTrue c env (eval c env); pure (ForInStep.yield ok) else pure (ForInStep.yield r)) (fun ok s₃ =>
            if ok = true then wpAny (model prog w) A (eval elt env) (fun x s₄ =>
              wpAny (model prog w) A (call (.builtin "list.append") [acc, x]) (fun _ s₅ => ∃ m, m < n ∧ I m s₅) (fun _ _ => False) s₄) (fun _ _ => False) s₃
            else ∃ m, m < n ∧ I m s₃) (fun _ _ => False) s₂) (fun _ _ => False) s₁') (fun _ _ => False) s₁) (fun _ _ => False) s)
    (n : Nat) (h : I n s) : codeAny (model prog w) A (.compLoop (.ListComp elt [⟨target, iter, ifs, 0⟩] scope pos) 0 it acc env) R s := by
  refine codeAny_loop rfl I (fun n s hI => ?_) n h
  show wpAny _ A ((compTurn (.ListComp elt [⟨target, iter, ifs, 0⟩] scope pos) 0 it acc env).onRaise (fun x => do noteFrame x env; theTreesLotGoes x)) _ _ s
  refine wpAny_noted ?_
  rw [compTurn_list]
  have no : ∀ {E' : Value → Shared → Prop} (e : Value) (s : Shared), False → E' e s := fun _ _ z => z.elim
  refine wpAny_bind (wpAny_standAt (wpAny_bind (wpAny_mono (turn n s hI) (fun r s₁ h₁ => ?_) no)))
  cases r with
  | none => exact wpAny_pure h₁
  | some v =>
    refine wpAny_bind (wpAny_mono h₁ (fun _ s₁' h₁ => ?_) no)
    refine wpAny_bind (wpAny_mono h₁ (fun _ s₂ h₂ => wpAny_bind (wpAny_mono h₂ (fun ok s₃ h₃ => ?_) no)) no)
    cases ok with
    | false => exact wpAny_pure ⟨rfl, h₃⟩
    | true => exact wpAny_bind (wpAny_bind (wpAny_mono h₃ (fun x s₄ h₄ => wpAny_bind (wpAny_mono h₄ (fun _ s₅ h₅ => wpAny_pure (wpAny_pure ⟨rfl, h₅⟩)) no)) no))

/-- the tests of a comprehension -/
def PIf (X : Cx) (ifs : List Expr) (t : TT) : Prop :=
  ∀ (pins : List (Addr × Obj)) (s : Shared) (σ : St) (H : Hp) (Q : Bool → Hp → Prop), Inv X pins σ H s → t σ H Q →
    wpAny (model X.prog X.w) X.A (forIn ifs true fun c r => if r = true then do let ok ← isTrue c X.env (eval c X.env); pure (ForInStep.yield ok) else pure (ForInStep.yield r)) (TP X pins σ Q) X.xe s
def tYes : TT := fun _ H Q => Q true H
theorem pif_nil {X : Cx} : PIf X [] tYes := fun _ _ _ H _ I h => wpAny_tests_nil ⟨H, I, h⟩

/-- slots that were known are so still -/
def Wk (σ σ' : St) : Prop := σ'.length = σ.length ∧ ∀ (k : Nat) (v : V), σ[k]? = some (some v) → σ'[k]? = some (some v)
theorem Wk.refl (σ : St) : Wk σ σ := ⟨rfl, fun _ _ h => h⟩
theorem Wk.set {σ σ' : St} (h : Wk σ σ') {i : Nat} {z : Option V} (hi : σ[i]? = some none) : Wk σ (σ'.set i z) := by
  refine ⟨by rw [List.length_set]; exact h.1, fun k v e => ?_⟩
  by_cases q : i = k
  · subst q; rw [hi] at e; cases e
  · rw [List.getElem?_set_ne q]; exact h.2 k v e

def cTurn (J : It) (g : TG) (tt : TT) (te : TE) (σc : St) (p : Addr) (W : Nat → Nat → List V → Hp → Prop) (R : Hp → Prop) : Prop :=
  ∀ i m ys H, W i m ys H → H p = some (.lst ys) ∧ ((J.stop i H ∧ R H) ∨ (J.go i H ∧ ∀ x H', J.yld i H x H' → g x σc H' fun σ2 H2 => Wk σc σ2 ∧ tt σ2 H2 fun b H3 =>
    if b = true then te σ2 H3 fun y H4 => H4 p = some (.lst ys) ∧ ys.length < sizeLine ∧ ∃ m', m' < m ∧ W (i + 1) m' (ys ++ [y]) (upd H4 p (.lst (ys ++ [y])))
    else ∃ m', m' < m ∧ W (i + 1) m' ys H3))

section
variable {X : Cx} {scope : Scope} {cl : List (Str × Addr)} {Nc : List Str} {fv : List (Option Nat)} {elt tg iter : Expr} {ifs : List Expr} {pos : Pos} {g : TG} {tt : TT} {te : TE}
theorem comp_run (O : CompOk X scope cl Nc fv) (hc : X.calm = true) (hg : ∀ s₀ H₀ C ex pn, PG (blk X scope cl Nc s₀ H₀ C ex pn) tg g) (ht : ∀ s₀ H₀ C ex pn, PIf (blk X scope cl Nc s₀ H₀ C ex pn) ifs tt)
    (he : ∀ s₀ H₀ C ex pn, PE (blk X scope cl Nc s₀ H₀ C ex pn) elt te)
    {pins : List (Addr × Obj)} {σ : St} {H : Hp} {s : Shared} {J : It} {fp : List Addr} {it : Addr} {tn : Nat → Heap → Prop} {R : Addr → Hp → Prop} {RR : Value → Addr → Result → Shared → Prop} {E : Value → Shared → Prop}
    (I : Inv X pins σ H s) (T : Turn X.prog X.w X.K tg J fp it tn) (st : tn 0 s.heap) (f : ∀ b ∈ fp, FpOk X pins H b)
    (h : ∀ p, H p = none → ∃ W : Nat → Nat → List V → Hp → Prop, (∃ m, W 0 m [] (upd H p (.lst []))) ∧ cTurn J g tt te (sig fv σ) p W (R p))
    (hRR : ∀ p C s' H', Inv X pins σ H' s' → R p H' → H' C = none → (∃ m, s'.heap.Ns C m) → C ≠ X.env.locals → X.s₀.heap.objs.size ≤ C → (∀ x c, X.env.cells.lookup x = some c → c ≠ C) → (∀ q ∈ X.pn ++ pins, q.1 ≠ C) → RR (.ref p) C (.ok .next) s') :
    wpAny (model X.prog X.w) X.A (newList []) (fun acc s₃ => wpAny (model X.prog X.w) X.A (newFunctionEnv scope X.env.globals cl [] X.env.qual none .none (some X.env)) (fun cenv s₄ =>
      codeAny (model X.prog X.w) X.A (.compStart (.ListComp elt [⟨tg, iter, ifs, 0⟩] scope pos) 0 (.ref it) acc { cenv with scope := relabel scope X.env }) (RR acc cenv.locals) s₄) E s₃) E s := by
  have hp : H s.heap.objs.size = none := I.hok.fresh (Nat.le_refl _)
  obtain ⟨W, ⟨m0, w0⟩, hT⟩ := h _ hp
  refine wpAny_newObj_type (wpAny_newFunctionEnv O.ncell (by intro y hy; simp at hy) (fun h₁ hns hsb => ?_) O.kind)
  dsimp only at hns hsb ⊢
  have I3 := I.lnew (ys := []) (its := []) (t' := s.toks) .nil (Nat.zero_le _)
  generalize hs3 : ({ s with heap := s.heap.push { cls := .type "list", data := .seq ([] : List Value).toArray }, toks := s.toks } : Shared) = s3 at I3
  have hheap : s3.heap = s.heap.push { cls := .type "list", data := .seq ([] : List Value).toArray } := by rw [← hs3]
  generalize hp0 : s.heap.objs.size = p at I3 w0 hT hp
  have hC : s3.heap.objs.size = p + 1 := by rw [hheap, Heap.size_push, hp0]
  generalize hCC : (s.heap.push { cls := Value.type "list", dict := none, data := .seq ([] : List Value).toArray }).objs.size = C at hns hsb ⊢
  have hC3 : s3.heap.objs.size = C := by rw [hheap]; exact hCC
  have old : ∀ b o, s3.heap.get? b = some o → h₁.get? b = some o := fun b o e => by
    have lt : b < C := by rw [← hC3]; exact Heap.lt_size e
    refine hsb.extBut b o (Nat.ne_of_lt lt) (Heap.get?_push_of_some _ ?_)
    rw [hheap] at e
    exact e
  have ne3 : ∀ b o, s3.heap.get? b = some o → b ≠ C := fun b o e => by rw [← hC3]; exact Nat.ne_of_lt (Heap.lt_size e)
  have sub := O.sub.at
  have I4 : Inv (blk X scope cl Nc s3 (upd H p (.lst [])) C fp (X.pn ++ pins)) [] (sig fv σ) (upd H p (.lst [])) { s with heap := h₁, toks := s.toks + ([] : List (Str × Value)).length } := by
    refine ⟨⟨I3.ok.mod, ?_, I3.ok.glob, I3.ok.blt, ?_, ?_, ?_, ?_, I3.ok.hd, I3.ok.frames, .inl rfl, ?_, I3.bs, ?_, ?_, ?_, I3.stack, I3.stkFree⟩, ?_, ?_, Un.kept old, ⟨_, hns, ?_⟩, ?_, ?_, ?_, ?_, I3.hok.kept old, ?_⟩
    · exact O.kind
    · show s3.heap.objs.size ≤ C; rw [hC3]; exact Nat.le_refl _
    · intro x y c h1 h2; exact I3.ok.inj x y c (sub x c h1) (sub y c h2)
    · intro x hx; exact O.cells hx
    · intro x c hf; exact Bool.noConfusion hf
    · intro b hb
      obtain ⟨f0, f1, f2, f3, f4, f5⟩ := f b hb
      obtain ⟨o, ho, _⟩ := T.obj _ _ st b hb
      have lt : b < C := by rw [← hC3, hC, ← hp0]; exact Nat.lt_succ_of_lt (Heap.lt_size ho)
      exact ⟨Nat.ne_of_lt lt, fun x c e => f4 x c (sub x c e)⟩
    · exact Nat.le_trans I3.ok.bsz I3.sz
    · intro b o e hb
      obtain ⟨f0, f1, f2, f3, f4, f5⟩ := f b hb
      rcases f3 with z | z
      · exact I3.ok.noex b o e z
      · exact absurd (Nat.lt_of_lt_of_le (Nat.lt_of_lt_of_le (Heap.lt_size e) I3.ok.bsz) z) (Nat.lt_irrefl _)
    · intro b hb z
      obtain ⟨f0, f1, f2, f3, f4, f5⟩ := f b hb
      rcases List.mem_cons.mp (I3.stkSub b z) with z | z
      · exact f1 z
      · exact f2 z
    · show s.os = s3.os; rw [← hs3]
    · exact I.bare
    · intro k x v e1 e2 e3
      obtain ⟨j, q1, q2⟩ := sig_at e2
      obtain ⟨a1, a2, a3, a4⟩ := O.fvs.at q1 e1
      obtain ⟨m, _, hl⟩ := I3.loc
      obtain ⟨u, r, lk⟩ := hl j x v a1 q2 (.inr (.inl a2))
      refine ⟨u, r, ?_⟩
      rcases lk with ⟨z, _⟩ | ⟨_, c, e, o, ho, hd⟩
      · have z' : X.env.scope.names.lookup x = some .local := z
        rw [a2] at z'; cases z'
      · exact .inr ⟨.inl a4, c, a3.trans e, o, old c o ho, hd⟩
    · intro x c e
      obtain ⟨v, o, ho, hd⟩ := I3.cell x c (sub x c e)
      exact ⟨v, o, old c o ho, hd⟩
    · show upd H p (.lst []) C = none
      exact I3.hok.fresh (by rw [hC3]; exact Nat.le_refl _)
    · intro x c e; exact I3.freeC x c (sub x c e)
    · intro q hq
      have hq' : q ∈ X.pn ++ pins := by
        have z : q ∈ (X.pn ++ pins) ++ [] := hq
        rwa [List.append_nil] at z
      obtain ⟨a1, a2, a3, a4, a5⟩ := I3.pin q hq'
      refine ⟨old _ _ a1, a2, ne3 _ _ a1, fun z => ?_, a5⟩
      rcases List.mem_cons.mp (I3.stkSub _ z) with z | z
      · exact a3 z
      · exact a4 z
    · show (sig fv σ).length = Nc.length
      unfold sig
      rw [List.length_map]
      exact O.len
  have fpc : ∀ {H' : Hp}, (∀ b ∈ fp, H' b = none) → ∀ b ∈ fp, FpOk (blk X scope cl Nc s3 (upd H p (.lst [])) C fp (X.pn ++ pins)) [] H' b := fun hn b hb => by
    obtain ⟨f0, f1, f2, f3, f4, f5⟩ := f b hb
    refine ⟨hn b hb, (I4.ok.exf b hb).1, I4.ok.exfs b hb, .inl hb, (I4.ok.exf b hb).2, fun q hq => ?_⟩
    have hq' : q ∈ X.pn ++ pins := by
      have z : q ∈ (X.pn ++ pins) ++ [] := hq
      rwa [List.append_nil] at z
    exact f5 q hq'
  have st4 : tn 0 h₁ := T.keep _ _ _ st fun b hb o e => old b o (by rw [hheap]; exact Heap.get?_push_of_some _ e)
  have fn4 : ∀ b ∈ fp, upd H p (.lst []) b = none := fun b hb => by
    obtain ⟨f0, _⟩ := f b hb
    obtain ⟨o, ho, _⟩ := T.obj _ _ st b hb
    rw [upd_ne (by rw [← hp0]; exact Nat.ne_of_lt (Heap.lt_size ho))]
    exact f0
  have loop : codeAny (model X.prog X.w) X.A (.compLoop (.ListComp elt [⟨tg, iter, ifs, 0⟩] scope pos) 0 (.ref it) (.ref p) (compEnvC scope cl C X.env)) (RR (.ref p) C) { s with heap := h₁, toks := s.toks + ([] : List (Str × Value)).length } := by
    refine comp_loop (fun n s' => ∃ i ys H', Inv (blk X scope cl Nc s3 (upd H p (.lst [])) C fp (X.pn ++ pins)) [] (sig fv σ) H' s' ∧ tn i s'.heap ∧ (∀ b ∈ fp, H' b = none) ∧ W i n ys H') ?_ m0 ⟨0, [], _, I4, st4, fn4, w0⟩
    rintro n s5 ⟨i, ys, H5, I5, st5, fn5, w5⟩
    obtain ⟨hl5, hh⟩ := hT i n ys H5 w5
    rcases hh with ⟨stop, q⟩ | ⟨go, step⟩
    · refine thn (T.done (blk X scope cl Nc s3 (upd H p (.lst [])) C fp (X.pn ++ pins)) rfl rfl rfl hc i [] s5 _ H5 _ I5 (fpc fn5) st5 stop) fun r s6 ⟨hr, I6⟩ => ?_
      subst hr
      obtain ⟨m6, hn6, _⟩ := I6.loc
      have I7 : Inv X pins σ H5 s6 := by
        refine I3.call' (ch := fp) I6.os I6.base I6.hok I6.bare fun b hb => ?_
        obtain ⟨f0, f1, f2, f3, f4, f5⟩ := f b hb
        exact ⟨f3, f1, f4, f5⟩
      refine hRR p C s6 H5 I7 q I6.free ⟨m6, hn6⟩ ?_ ?_ (fun x c e z => ?_) fun q hq z => ?_
      · rw [← hC3]; exact Nat.ne_of_gt I3.lt
      · rw [← hC3]; exact I3.sz
      · obtain ⟨v, o, ho, _⟩ := I3.cell x c e
        exact ne3 c o ho z
      · exact ne3 _ _ (I3.pin q hq).1 z
    · refine thn (T.item (blk X scope cl Nc s3 (upd H p (.lst [])) C fp (X.pn ++ pins)) rfl rfl rfl hc i [] s5 _ H5 (fun _ _ => False) I5 (fpc fn5) st5 go) fun r s6 ⟨u, hr, h6⟩ => ?_
      subst hr
      refine thn h6 fun _ s7 ⟨x, H7, I7, r7, y7, st7, fn7⟩ => ?_
      have I7' := I7.pinned (fpc fn7) (T.obj _ _ st7)
      refine thn (hg s3 (upd H p (.lst [])) C fp (X.pn ++ pins) _ s7 _ H7 x u _ I7' r7 (step x H7 y7)) fun _ s8 ⟨σ8, H8, I8, wk8, q8⟩ => ?_
      have again : ∀ {H9 : Hp} {s9 : Shared} {ys' : List V}, Inv (blk X scope cl Nc s3 (upd H p (.lst [])) C fp (X.pn ++ pins)) ([] ++ pinsAt fp s7.heap) σ8 H9 s9 → (∃ m', m' < n ∧ W (i + 1) m' ys' H9) →
          ∃ m, m < n ∧ ∃ i ys H', Inv (blk X scope cl Nc s3 (upd H p (.lst [])) C fp (X.pn ++ pins)) [] (sig fv σ) H' s9 ∧ tn i s9.heap ∧ (∀ b ∈ fp, H' b = none) ∧ W i m ys H' := fun {H9 s9 ys'} I9 ⟨m', hm, w9⟩ => by
        refine ⟨m', hm, i + 1, ys', H9, I9.unpinned.weak wk8.1.symm wk8.2, T.keep _ _ _ st7 fun b hb o e => (I9.pin (b, o) (List.mem_append_right _ (List.mem_append_right _ (mem_pinsAt hb e)))).1, fun b hb => ?_, w9⟩
        obtain ⟨o, e, d⟩ := T.obj _ _ st7 b hb
        exact (I9.pin (b, o) (List.mem_append_right _ (List.mem_append_right _ (mem_pinsAt hb e)))).2.1
      refine thn (ht s3 (upd H p (.lst [])) C fp (X.pn ++ pins) _ s8 σ8 H8 _ I8 q8) fun b s9 ⟨H9, I9, q9⟩ => ?_
      cases b with
      | false => exact again I9 q9
      | true =>
        refine thn (he s3 (upd H p (.lst [])) C fp (X.pn ++ pins) _ s9 σ8 H9 _ I9 q9) fun v s10 ⟨y, H10, I10, r10, hy, hz, q10⟩ => ?_
        refine thn (mt_append (X := blk X scope cl Nc s3 (upd H p (.lst [])) C fp (X.pn ++ pins)) _ s10 σ8 H10 (.ref p) [y] (.ref p) [v] (fun _ H' => ∃ m', m' < n ∧ W (i + 1) m' (ys ++ [y]) H') I10 rfl (.cons r10 .nil) ⟨p, ys, y, rfl, rfl, hy, hz, q10⟩) fun _ s11 ⟨_, H11, I11, _, q11⟩ => ?_
        exact again I11 q11
  exact codeAny_compStart_list loop (T.self _ _ _ _ _ st4 loop)

/-- [elt for tg in iter if ..] -/
def tComp (fv : List (Option Nat)) (wi : TI) (g : TG) (tt : TT) (te : TE) : TE := fun σ H Q => wi σ H fun J H1 => ∀ p, H1 p = none → ∃ W : Nat → Nat → List V → Hp → Prop, (∃ m, W 0 m [] (upd H1 p (.lst []))) ∧ cTurn J g tt te (sig fv σ) p W fun H' => Q (.ref p) H'
theorem pe_comp {wi : TI} (O : CompOk X scope cl Nc fv) (hc : X.calm = true) (hi : PI X tg iter wi) (hg : ∀ s₀ H₀ C ex pn, PG (blk X scope cl Nc s₀ H₀ C ex pn) tg g) (ht : ∀ s₀ H₀ C ex pn, PIf (blk X scope cl Nc s₀ H₀ C ex pn) ifs tt)
    (he : ∀ s₀ H₀ C ex pn, PE (blk X scope cl Nc s₀ H₀ C ex pn) elt te) (hs : ∀ x, foldedSetIterable iter X.env x = pure x := by intro _; rfl) :
    PE X (.ListComp elt [⟨tg, iter, ifs, 0⟩] scope pos) (tComp fv wi g tt te) := by
  intro pins s σ H Q I h
  rw [eval_ListComp]
  refine wpAny_comprehension_free (use := none) rfl hs O.clos O.kind O.names (wpAny_mono (hi pins s σ H _ I h) (fun v s1 h1 => thn h1 fun itv s2 h2 => ?_) fun _ _ z => z)
  obtain ⟨it, fp, tn, J, H2, e, I2, T, st2, f2, q2⟩ := h2
  subst e
  refine comp_run (RR := fun acc C => compPost (model X.prog X.w) X.A X.xe none (EP X pins σ Q) acc C) O hc hg ht he I2 T st2 f2 q2 ?_
  intro p C s' H' I' q' c1 c2 c3 c4 c5 c6
  obtain ⟨m, hn⟩ := c2
  exact ⟨m, hn, fun h'' hs'' => ⟨.ref p, H', I'.turned (t' := s'.toks) (fun b o hb e => (hs''.2 b hb).trans e) c1 c3 (.inr c4) c5 c6, rfl, q'⟩⟩
/-- name = [elt for tg in iter if ..] -/
theorem ps_comp {wi : TI} {i : Nat} {y : Str} {py spos : Pos} (O : CompOk X scope cl Nc fv) (hN : X.N.Nodup) (hy : X.N[i]? = some y) (hx : Loc X.env.scope y) (hc : X.calm = true) (hi : PI X tg iter wi) (hg : ∀ s₀ H₀ C ex pn, PG (blk X scope cl Nc s₀ H₀ C ex pn) tg g)
    (ht : ∀ s₀ H₀ C ex pn, PIf (blk X scope cl Nc s₀ H₀ C ex pn) ifs tt) (he : ∀ s₀ H₀ C ex pn, PE (blk X scope cl Nc s₀ H₀ C ex pn) elt te)
    (hsw : swapsWith (.ListComp elt [⟨tg, iter, ifs, 0⟩] scope pos) (some (.Name y py)) spos.line X.env = pure true := by rfl) (hs : ∀ x, foldedSetIterable iter X.env x = pure x := by intro _; rfl)
    (hf : X.fn y = true ∨ X.env.scope.names.lookup y = some .local := by first | exact .inl rfl | exact .inr rfl | assumption) :
    PS X (.Assign [.Name y py] (.ListComp elt [⟨tg, iter, ifs, 0⟩] scope pos) spos) (tAsg (tComp fv wi g tt te) (gName i)) := by
  intro pins s σ H D I h
  rw [exec_Assign_Name_used _ _ _ _ hsw]
  refine wpAny_bind (wpAny_standAt (wpAny_bind ?_))
  show wpAny _ X.A (do let _ ← comprehension (.ListComp elt [⟨tg, iter, ifs, 0⟩] scope pos) scope X.env _ (newList []) false (eval iter X.env) (some (assign (.Name y py) X.env))) _ _ s
  refine wpAny_bind (wpAny_mono (wpAny_comprehension_free (use := some (assign (.Name y py) X.env)) (Q := fun _ s' => SP X pins D .next s') rfl hs O.clos O.kind O.names
    (wpAny_mono (hi pins s σ H _ I h) (fun v s1 h1 => thn h1 fun itv s2 h2 => ?_) fun _ _ z => z)) (fun _ s' hq => wpAny_pure (wpAny_pure hq)) fun _ _ e => e)
  obtain ⟨it, fp, tn, J, H2, e, I2, T, st2, f2, q2⟩ := h2
  subst e
  refine comp_run (RR := fun acc C => compPost (model X.prog X.w) X.A X.xe (some (assign (.Name y py) X.env)) (fun _ s' => SP X pins D .next s') acc C) O hc hg ht he I2 T st2 f2 q2 ?_
  intro p C s' H' I' q' c1 c2 c3 c4 c5 c6
  obtain ⟨m, hn⟩ := c2
  show wpAny _ X.A (assign (.Name y py) X.env (.ref p)) _ _ _
  refine wpAny_assign_Name (store_ok2 I' hN hy hx (v := .ref p) (u := .ref p) rfl (fun s'' I'' hb => ?_) hf)
  obtain ⟨a, sb, ha⟩ := hb
  have hCa : C ≠ a := by
    rcases ha with z | z
    · rw [z]; exact c3
    · exact fun w => c5 y a z w.symm
  refine ⟨m, hn.sameBut sb hCa, fun h3 sb3 => ?_⟩
  exact ⟨_, H', I''.turned (t' := s''.toks) (fun b o hb e => (sb3.2 b hb).trans e) c1 c3 (.inr c4) c5 c6, q'⟩
end
end L2

set_option Elab.async false
set_option linter.all false
set_option maxRecDepth 100000
/-! L3: sums, enumerate, == of built data, isinstance, refusals raised and caught -/
namespace L2
open PySem PySem.Spec PyProof.Rows

section
variable {P : Program} {w : World} {H : Hp} {h h' : Heap} {a : Addr} {o : HO}
/-- what is tracked stays, and one more thing is tracked -/
theorem HOk.more (x : HOk P w H h) (k : ∀ b u, H b ≠ none → h.get? b = some u → h'.get? b = some u) (hn : H a = none) (new : ObjOk P w (upd H a o) h' a o) : HOk P w (upd H a o) h' := fun b u e => by
  by_cases q : b = a
  · subst q
    rw [upd_same] at e
    cases e
    exact new
  · rw [upd_ne q] at e
    have ne : ∀ c z, H c = some z → c ≠ a := fun c z e' w' => by rw [w', hn] at e'; cases e'
    refine (x b u e).stay (fun c v hc z => k c v ?_ z) (fun c z => by rw [upd_ne (ne c _ z)]; exact z) fun c xs z => by rw [upd_ne (ne c _ z)]; exact z
    rcases hc with z | z
    · rw [z, e]; intro y; cases y
    · rw [z]; intro y; cases y
theorem Un.track {fs ex : List Addr} {H₀ : Hp} {h₀ : Heap} (u : Un fs ex H₀ H h₀ h) (hn : H a = none) (h0 : h₀.get? a = none) : Un fs ex H₀ (upd H a o) h₀ h := by
  have ne : ∀ c z, H c = some z → c ≠ a := fun c z e' w' => by rw [w', hn] at e'; cases e'
  refine ⟨u.keep, u.slot, fun b ob e n hx => ?_, u.there, fun b xs e => ?_, fun b ob z e => ?_, fun b ps e => ?_⟩
  · rw [upd_ne (fun z => by rw [z, h0] at e; cases e)]; exact u.free b ob e n hx
  · have q := u.tups b xs e
    rw [upd_ne (ne b _ q)]; exact q
  · have q := u.frzs b ob z e
    rw [upd_ne (ne b _ q)]; exact q
  · obtain ⟨m, q⟩ := u.tbls b ps e
    exact ⟨m, by rw [upd_ne (ne b _ q)]; exact q⟩
end

section
variable {X : Cx}
/-! ### sum -/

/-! ### enumerate -/
def Ite (K : PySem.W.Frag) (a : Addr) : It :=
  ⟨fun i H => ∃ xs x, SqL K H a xs ∧ xs[i]? = some x, fun i H x H' => ∃ t y, H t = none ∧ H' = upd H t (.tup [.int i, y]) ∧ x = .ref t ∧ ∀ xs, SqL K H a xs → xs[i]? = some y, fun i H => ∃ xs, SqL K H a xs ∧ xs.length ≤ i⟩
theorem turn_enum {P : Program} {w : World} {K : PySem.W.Frag} {es : List Expr} {k : Nat} {tp : Pos} (a e it : Addr) (hei : e ≠ it) : Turn P w K (.Tuple es k tp) (Ite K a) [e, it] e (fun i h => (∃ old, IsEnum h e it i old) ∧ h.IsListIter it a i) where
  mem := by simp
  obj := fun i h st b hb => by
    obtain ⟨⟨old, h1⟩, o, h2, c, d⟩ := st
    rcases List.mem_cons.mp hb with z | z
    · subst z; exact ⟨_, h1, fun v q => by have q' : Data.fields _ = Data.cell v := q; cases q'⟩
    · rw [List.mem_singleton.mp z]; exact ⟨o, h2, fun v q => by rw [d] at q; cases q⟩
  keep := fun i h h' st k => by
    obtain ⟨⟨old, h1⟩, h2⟩ := st
    exact ⟨⟨old, k e (by simp) _ h1⟩, h2.at fun o z => k it (by simp) o z⟩
  item := by
    intro X hP hw hK hc i pins s σ H E I hf st hg
    subst hP hw hK
    obtain ⟨xs, x, hq, hx⟩ := hg
    obtain ⟨its, rv, p, hz⟩ := I.list hq
    obtain ⟨u, hu, ru⟩ := rv.get hx
    obtain ⟨⟨old, h1⟩, h2⟩ := st
    refine wpAny_pyNext_enum_item h1 h2 p.isList (x := u) (by simpa using hu) hei fun h' g1 g2 g3 g4 g5 => ?_
    refine ⟨_, rfl, ?_⟩
    have hn : H s.heap.objs.size = none := I.hok.fresh (Nat.le_refl _)
    show wpAny _ X.A (do
      let o ← load e
      match o.cls, o.data with
      | .type n, .fields vs =>
        if ["enumerate", "zip", "dict_itemiterator", "dict_reverseitemiterator", "odict_iterator", "itertools.zip_longest", "itertools.pairwise"].contains n && vs[0]? == some (rawInt s.heap.objs.size) then
          rule "for.unpacks-the-owned-tuple"
          updateField e 0 .none
      | _, _ => pure ()) _ _ _
    refine wpAny_bind (wpAny_load g1 ?_)
    dsimp only
    rw [if_pos (by simp)]
    refine wpAny_bind (wpAny_rule ?_)
    show wpAny _ _ (setField (.ref e) 0 .none) _ _ _
    refine wpAny_setField g1 rfl (by simp) ?_
    have ge : ∀ b, b ≠ e → (h'.update e (Obj.mapFields (·.setIfInBounds 0 Value.none))).get? b = h'.get? b := fun b q => Heap.get?_update_other _ _ (Ne.symm q)
    have gs := Heap.get?_update_self (Obj.mapFields (·.setIfInBounds 0 Value.none)) g1 rfl
    have te : s.heap.objs.size ≠ e := Nat.ne_of_gt (Heap.lt_size h1)
    have keep : ∀ b o, b ∉ [e, it] → s.heap.get? b = some o → (h'.update e (Obj.mapFields (·.setIfInBounds 0 Value.none))).get? b = some o := fun b o q z => by
      rw [ge b (by intro y; exact q (by simp [y]))]
      exact g5 b o (by intro y; exact q (by simp [y])) (by intro y; exact q (by simp [y])) z
    have nfp : ∀ b, H b ≠ none → b ∉ [e, it] := fun b q z => q (hf b z).1
    have new : ObjOk X.prog X.w (upd H s.heap.objs.size (.tup [.int i, x])) (h'.update e (Obj.mapFields (·.setIfInBounds 0 Value.none))) s.heap.objs.size (.tup [.int i, x]) := by
      refine ⟨by simp only [List.length_cons, List.length_nil]; rw [sizeLine_eq]; decide, [.int i s.toks, u], .cons ⟨_, rfl⟩ (.cons ru .nil), ⟨_, (ge _ te).trans g3, rfl, 0, rfl⟩⟩
    have I1 : Inv X pins σ (upd H s.heap.objs.size (.tup [.int i, x])) { s with heap := h'.update e (Obj.mapFields (·.setIfInBounds 0 Value.none)), toks := s.toks + 1 } := by
      refine I.call (ch := [e, it]) (g' := s.gens) (d' := s.drawn) ?_ (I.hok.more (fun b v q z => keep b v (nfp b q) z) hn new) I.bare fun b hb => ?_
      · refine Un.track (H := H) ⟨fun b o z n _ hx => keep b o hx z, fun b o z n _ hx => ⟨o.slots, keep b o hx z⟩, fun _ _ _ n _ => n, fun b o z hx => ⟨o, keep b o hx z⟩, fun _ _ z => z, fun _ _ _ z => z, fun b ps z => ⟨#[], by rw [z]; simp⟩⟩ hn (Heap.get?_none_of_le (Nat.le_refl _))
      · obtain ⟨f0, f1, f2, f3, f4, f5⟩ := hf b hb
        exact ⟨f3, f1, f4, f5⟩
    refine ⟨.ref s.heap.objs.size, _, I1, rfl, ⟨s.heap.objs.size, x, hn, rfl, rfl, fun ys hy => by rw [I.list_inj hy hq]; exact hx⟩, ⟨⟨u, ?_⟩, ?_⟩, fun b hb => ?_⟩
    · show (h'.update e (Obj.mapFields (·.setIfInBounds 0 Value.none))).get? e = _
      rw [gs]
      rfl
    · exact g2.at fun o z => (ge it (Ne.symm hei)).trans z
    · have lt : b < s.heap.objs.size := by
        rcases List.mem_cons.mp hb with z | z
        · rw [z]; exact Heap.lt_size h1
        · rw [List.mem_singleton.mp z]; obtain ⟨o, q, _⟩ := h2; exact Heap.lt_size q
      rw [upd_ne (Nat.ne_of_lt lt)]
      exact (hf b hb).1
  done := by
    intro X hP hw hK hc i pins s σ H E I hf st hg
    subst hP hw hK
    obtain ⟨xs, hq, hx⟩ := hg
    obtain ⟨its, rv, p, hz⟩ := I.list hq
    obtain ⟨⟨old, h1⟩, h2⟩ := st
    obtain ⟨f0, f1, f2, f3, f4, f5⟩ := hf it (by simp)
    have hl := rv.length
    exact wpAny_pyNext_enum_end (I.ok.hd hc) h1 h2 p.isList (by simp; omega) fun h' eb => ⟨rfl, I.turned (t' := s.toks) (fun b o hb z => eb b o hb z) f0 f1 f3 f4 f5⟩
  self := fun _ _ _ _ _ st h => by
    obtain ⟨⟨old, h1⟩, h2⟩ := st
    exact wpAny_pyIter_enum h1 h
def iEnum (K : PySem.W.Frag) (ta : TA) : TI := fun σ H R => ta σ H fun vs H1 => ∃ a, vs = [.ref a] ∧ (∃ xs, SqL K H1 a xs) ∧ R (Ite K a) H1
theorem pi_enum {a : Expr} {ta : TA} {p pos : Pos} {es : List Expr} {k : Nat} {tp : Pos} (hg : Gl X "enumerate") (hm : X.mg "enumerate" = none) (ha : PA X [a] ta) (hs : starEach [a] X.env = [(false, eval a X.env)] := by rfl) :
    PI X (.Tuple es k tp) (.Call (.Name "enumerate" p) [a] [] pos) (iEnum X.K ta) := by
  intro pins s σ H R I h
  refine Call_ (ld_blt I hg hm PyProof.Rows.Boot.«enumerate» (PyProof.Rows.callWith_type1 (thn (ha pos pins s σ H _ I h) fun us s1 ⟨vs, H1, I1, r1, q1⟩ => ?_) hs rfl))
  obtain ⟨l, e, ⟨xs, hx⟩, q⟩ := q1
  subst e
  obtain ⟨u, rfl, rx⟩ := vals1 r1
  cases rx
  obtain ⟨its, rv, pl, hz⟩ := I1.list hx
  refine call_enumerate_list pl.isList fun h' g1 g2 g3 g4 => ?_
  have I2 : Inv X pins σ H1 { s1 with heap := h' } := I1.kept (t' := s1.toks) g4
  refine wpAny_pyIter_enum g1 ?_
  refine ⟨s1.heap.objs.size + 1, [s1.heap.objs.size + 1, s1.heap.objs.size], _, _, H1, rfl, I2, turn_enum l _ _ (Nat.succ_ne_self _), ⟨⟨.none, g1⟩, g2⟩, fun b hb => ?_, q⟩
  rcases List.mem_cons.mp hb with z | z
  · subst z; exact I1.fpOk (Nat.le_succ _) (I1.hok.fresh (Nat.le_succ _))
  · rw [List.mem_singleton.mp z]; exact I1.fpOk (Nat.le_refl _) (I1.hok.fresh (Nat.le_refl _))
/-- over enumerate of a list that the body leaves as it is -/
theorem for_enum {K : PySem.W.Frag} {a : Addr} {xs : List V} {g : TG} {tb : TS} {D : Ends} {σ : St} {H : Hp} (Pv : Nat → St → Hp → Prop) (h0 : Pv 0 σ H) (hl : ∀ i σ H, i ≤ xs.length → Pv i σ H → SqL K H a xs)
    (hs : ∀ i x σ H t, xs[i]? = some x → Pv i σ H → H t = none → g (.ref t) σ (upd H t (.tup [.int i, x])) fun σ2 H2 => tb { D with nx := Pv (i + 1), ct := Pv (i + 1), bk := D.nx } σ2 H2) (hd : ∀ σ H, Pv xs.length σ H → D.nx σ H) :
    ∃ W : Nat → Nat → St → Hp → Prop, (∃ m, W 0 m σ H) ∧ ∀ i m σ H, W i m σ H →
      ((Ite K a).stop i H ∧ D.nx σ H) ∨ ((Ite K a).go i H ∧ ∃ N : St → Hp → Prop, (∀ σ' H', N σ' H' → ∃ m', m' < m ∧ W (i + 1) m' σ' H') ∧ ∀ x H', (Ite K a).yld i H x H' → g x σ H' fun σ2 H2 => tb { D with nx := N, ct := N, bk := D.nx } σ2 H2) := by
  refine ⟨fun i m σ H => m = xs.length - i ∧ i ≤ xs.length ∧ Pv i σ H, ⟨xs.length, by simp, Nat.zero_le _, h0⟩, ?_⟩
  rintro i m σ H ⟨rfl, hi, p⟩
  have q := hl i σ H hi p
  by_cases hlt : i < xs.length
  · refine .inr ⟨⟨xs, xs[i], q, by simp [hlt]⟩, Pv (i + 1), fun σ' H' p' => ⟨xs.length - (i + 1), by omega, rfl, hlt, p'⟩, fun x H' y => ?_⟩
    obtain ⟨t, v, ht, rfl, rfl, hv⟩ := y
    exact hs i v σ H t (hv xs q) p ht
  · have e : i = xs.length := by omega
    subst e
    exact .inl ⟨⟨xs, q, Nat.le_refl _⟩, hd σ H p⟩
end

end L2

set_option Elab.async false
set_option linter.all false
set_option maxRecDepth 100000
/-! L3: == of built data; a refusal raised; a refusal caught -/
namespace L2
open PySem PySem.Spec PyProof.Rows

mutual
/-- the value is that plain data -/
def DatR (K : PySem.W.Frag) (H : Hp) : PyData → V → Prop
  | .none, v => v = .non
  | .bool b, v => v = .bl b
  | .int i, v => v = .int i
  | .str x, v => v = .str x
  | .tuple ds, v => ∃ a xs, v = .ref a ∧ SqT K H a xs ∧ DatA K H ds xs
  | .list ds, v => ∃ a xs, v = .ref a ∧ SqL K H a xs ∧ DatA K H ds xs
  | .dict _, _ => False
def DatA (K : PySem.W.Frag) (H : Hp) : List PyData → List V → Prop
  | [], xs => xs = []
  | d :: ds, xs => ∃ x r, xs = x :: r ∧ DatR K H d x ∧ DatA K H ds r
end
section
variable {X : Cx} {pins : List (Addr × Obj)} {σ : St} {H : Hp} {s : Shared}
mutual
theorem reads_of (I : Inv X pins σ H s) : ∀ (d : PyData) {v : V} {u : Value}, DatR X.K H d v → RelV v u → ∃ as, Reads s.heap u d as
  | .none, v, u, h, r => by cases (show v = .non from h); cases (show u = Value.none from r); exact ⟨_, .none⟩
  | .bool b, v, u, h, r => by cases (show v = .bl b from h); cases (show u = Value.bool b from r); exact ⟨_, .bool b⟩
  | .int i, v, u, h, r => by cases (show v = .int i from h); obtain ⟨t, rfl⟩ := (show ∃ t, u = Value.int i t from r); exact ⟨_, .int i t⟩
  | .str x, v, u, h, r => by cases (show v = .str x from h); obtain ⟨t, rfl⟩ := (show ∃ t, u = Value.str x t from r); exact ⟨_, .str x t⟩
  | .tuple ds, v, u, h, r => by
    obtain ⟨a, xs, rfl, hq, hd⟩ := (show ∃ a xs, v = .ref a ∧ SqT X.K H a xs ∧ DatA X.K H ds xs from h)
    cases (show u = Value.ref a from r)
    obtain ⟨its, rv, ⟨o, e, c, n, d⟩, hz⟩ := I.tuple hq
    obtain ⟨as, ra⟩ := readsAll_of I ds hd rv
    exact ⟨_, .tuple e c d ra⟩
  | .list ds, v, u, h, r => by
    obtain ⟨a, xs, rfl, hq, hd⟩ := (show ∃ a xs, v = .ref a ∧ SqL X.K H a xs ∧ DatA X.K H ds xs from h)
    cases (show u = Value.ref a from r)
    obtain ⟨its, rv, pl, hz⟩ := I.list hq
    obtain ⟨o, e, c, n, d⟩ := pl.isList
    obtain ⟨as, ra⟩ := readsAll_of I ds hd rv
    exact ⟨_, .list e c d ra⟩
  | .dict kvs, v, u, h, r => (show False from h).elim
theorem readsAll_of (I : Inv X pins σ H s) : ∀ (ds : List PyData) {xs : List V} {us : List Value}, DatA X.K H ds xs → Vals xs us → ∃ as, ReadsAll s.heap us ds as
  | [], xs, us, h, r => by
    cases (show xs = [] from h)
    cases r
    exact ⟨_, .nil⟩
  | d :: ds, xs, us, h, r => by
    obtain ⟨x, rest, rfl, h1, h2⟩ := (show ∃ x r, xs = x :: r ∧ DatR X.K H d x ∧ DatA X.K H ds r from h)
    cases r with
    | cons r1 r2 =>
      obtain ⟨as, ra⟩ := reads_of I d h1 r1
      obtain ⟨bs, rb⟩ := readsAll_of I ds h2 r2
      exact ⟨_, .cons ra rb⟩
end
def rEqD (K : PySem.W.Frag) (neg : Bool) : R2 := fun x y H Q => ∃ dx dy, DatR K H dx x ∧ DatR K H dy y ∧ dx.canLay0 = true ∧ dy.canLay0 = true ∧ dx.depth ≤ 8 ∧ Q (.bl (if neg then !PyData.eqv dx dy else PyData.eqv dx dy)) H
theorem op_eqD (hu : X.A.units + 64 < cLine) : OpR X (compareOp .Eq) (rEqD X.K false) := by
  intro pins s σ H x y v u Q I rx ry h
  obtain ⟨dx, dy, h1, h2, c1, c2, d1, q⟩ := h
  obtain ⟨as, ra⟩ := reads_of I dx h1 rx
  obtain ⟨bs, rb⟩ := reads_of I dy h2 ry
  exact SeqAt.compareEq_reads ra rb c1 c2 (by have := Nat.min_le_left dx.depth dy.depth; omega) ⟨.bl _, H, I, rfl, q⟩
theorem op_neD (hu : X.A.units + 64 < cLine) : OpR X (compareOp .NotEq) (rEqD X.K true) := by
  intro pins s σ H x y v u Q I rx ry h
  obtain ⟨dx, dy, h1, h2, c1, c2, d1, q⟩ := h
  obtain ⟨as, ra⟩ := reads_of I dx h1 rx
  obtain ⟨bs, rb⟩ := reads_of I dy h2 ry
  exact SeqAt.compareNe_reads ra rb c1 c2 (by have := Nat.min_le_left dx.depth dy.depth; omega) ⟨.bl _, H, I, rfl, q⟩
end

/-! ### a refusal raised -/
theorem exc_obj {K : PySem.W.Frag} {h : Heap} {C : Addr} {bmB : List Value} {newId : String} (X : K.In h) (q : PySem.W.excIn K C bmB newId = true) :
    ∃ bm N nm qn bs hd sn sub ab col dd k0 k1 k2 k3 k5, h.get? C = some (excClassObj nm qn C N bs bm hd sn sub ab col dd k0 k1 k2 k3 k5 newId) ∧ h.Ns N (h.nsMap N) ∧ h.nsMap N "__init__" = none ∧ OwnTail h bmB bm := by
  unfold PySem.W.excIn at q
  split at q
  · rename_i dd cd sl ho
    split at q
    · rename_i C' bm k0 k1 k2 k3 n k5 hm hs
      simp only [Bool.and_eq_true, beq_iff_eq, Bool.not_eq_true'] at q
      obtain ⟨⟨⟨⟨⟨rfl, rfl⟩, hdel⟩, ht⟩, hok⟩, hni⟩ := q
      obtain ⟨nm, bs, mro, ns, qn, hd, sn, sub, ab, col, del⟩ := cd
      dsimp only at hm hdel hok hni
      subst hm hdel
      obtain ⟨l⟩ := sl
      have hs' : l = _ := hs
      subst hs'
      exact ⟨bm, ns, nm, qn, bs, hd, sn, sub, ab, col, dd, k0, k1, k2, k3, k5, X _ _ ho, .of_isNs (PySem.W.isNs_of_in X hok), PySem.W.nsMap_none_of_in X hok hni, PySem.W.tail_of_in X ht⟩
    · cases q
  · cases q
section
variable {X : Cx} {E : XK} {C : Addr} {bmB : List Value} {B newId initId : String} {x : Str} {np cpos pos : Pos} {e : Expr} {es : List Expr} {t : TA}
end

/-! ### a refusal caught -/
/-- an exception that was caught: a thing with its class and its dict -/
def ExcO (e : Addr) (cls : Value) (od : Option Addr) : HO := .ext fun h => ∃ oe vs, h.get? e = some oe ∧ oe.cls = cls ∧ oe.dict = od ∧ oe.data = .fields vs
/-- within an except suite -/
def Cx.caught (X : Cx) (e : Addr) : Cx := { X with A := X.A.mark (some (.ref e)), calm := false, xe := fun _ _ => False }
section
variable {X : Cx} {pins : List (Addr × Obj)} {σ : St} {H : Hp} {s : Shared}
theorem Inv.caught (I : Inv X pins σ H s) (e : Addr) : Inv (X.caught e) pins σ H s :=
  ⟨⟨I.ok.mod, I.ok.kind, I.ok.glob, I.ok.blt, I.ok.above, I.ok.inj, I.ok.has, I.ok.cab, fun z => Bool.noConfusion z, I.ok.frames, I.ok.stk, I.ok.exf, I.ok.bs, I.ok.bsz, I.ok.noex, I.ok.exfs, I.ok.funs, I.ok.frf⟩,
    I.os, I.bare, I.base, I.loc, I.cell, I.free, I.freeC, I.pin, I.hok, I.len⟩
theorem Inv.uncaught {e : Addr} (I : Inv (X.caught e) pins σ H s) (ok : X.Ok) : Inv X pins σ H s :=
  ⟨ok, I.os, I.bare, I.base, I.loc, I.cell, I.free, I.freeC, I.pin, I.hok, I.len⟩
/-- a local name goes -/
theorem name_gone {M : Model} {A : Around} {E : Value → Shared → Prop} {i : Nat} {x : Str} {pos : Pos} {Q : Unit → Shared → Prop} (I : Inv X pins σ H s) (hN : X.N.Nodup) (hi : X.N[i]? = some x) (hk : X.env.scope.names.lookup x = some .local)
    (h : ∀ s', Inv X pins (σ.set i none) H s' → Q () s') : wpAny M A (do bindName X.env x .none; unbindBehindTheSuite X.env x pos) Q E s := by
  obtain ⟨m, hn, hl⟩ := id I.loc
  have hcls : (X.env.scope.kind == .class || (X.env.scope.kind == .module && X.env.locals != X.env.globals)) = false := by rw [I.ok.kind]; rfl
  have hiσ : i < σ.length := by rw [I.len]; exact (List.getElem?_eq_some_iff.mp hi).1
  refine wpAny_nameGoes_keeps hk hn hcls fun h' v hn' hs => ?_
  have lo : ∀ b o, X.s₀.heap.get? b = some o → b ≠ X.env.locals := fun b o e => Nat.ne_of_lt (Nat.lt_of_lt_of_le (Heap.lt_size e) I.ok.above)
  refine h _ ⟨I.ok, I.os, I.bare, ⟨fun b o e n hb hx => (hs.2 b (lo b o e)).trans (I.base.keep b o e n hb hx), fun b o e n hb hx => ?_, I.base.free, fun b o e hx => ?_, I.base.tups, I.base.frzs, I.base.tbls⟩, ⟨_, hn', fun j y v' e1 e2 e3 => ?_⟩, fun y c e => ?_, I.free, I.freeC, fun p hp => ?_, fun b u e => ?_, by simpa using I.len⟩
  · obtain ⟨sl, e1⟩ := I.base.slot b o e n hb hx
    exact ⟨sl, (hs.2 b (lo b o e)).trans e1⟩
  · obtain ⟨o', e1⟩ := I.base.there b o e hx
    exact ⟨o', (hs.2 b (lo b o e)).trans e1⟩
  · by_cases hj : j = i
    · subst hj
      rw [List.getElem?_set_self hiσ] at e2
      cases e2
    · rw [List.getElem?_set_ne (Ne.symm hj)] at e2
      obtain ⟨u', r', q⟩ := hl j y v' e1 e2 e3
      refine ⟨u', r', ?_⟩
      rcases q with ⟨k, e⟩ | ⟨k, c, e, z⟩
      · refine .inl ⟨k, ?_⟩
        have : y ≠ x := fun e => hj (nodup_ix hN e1 (e ▸ hi))
        simp [this, e]
      · exact .inr ⟨k, c, e, z.sameBut hs (I.cne y c e)⟩
  · obtain ⟨w', z⟩ := I.cell y c e
    exact ⟨w', z.sameBut hs (I.cne y c e)⟩
  · obtain ⟨e, n, ne, nf, d⟩ := I.pin p hp
    exact ⟨(hs.2 p.1 ne).trans e, n, ne, nf, d⟩
  · refine (I.hok b u e).stay (fun c w' hc q => (hs.2 c ?_).trans q) (fun _ q => q) fun _ _ q => q
    rintro rfl
    rcases hc with rfl | hc
    · rw [I.free] at e; cases e
    · rw [I.free] at hc; cases hc
end

/-- what of the text a class must have to be caught by -/
structure Catch (K : PySem.W.Frag) (B : Addr) : Prop where
  cls : (PySem.W.clsIn K B).isSome = true
  ty : PySem.W.typeIn K (.ref B) = some (.type "type")
  exc : PySem.W.mroIn K B (.type "BaseException") = some true
theorem exc_hits {prog : Program} {w : World} {A : Around} {E : Value → Shared → Prop} {s : Shared} {K : PySem.W.Frag} {B C e : Addr} {oe : Obj} {Q : Bool → Shared → Prop} (X : K.In s.heap) (c : Catch K B) (he : s.heap.get? e = some oe) (hc : oe.cls = .ref C)
    (hm : PySem.W.mroIn K C (.ref B) = some true) (h : Q true s) : wpAny (model prog w) A (excMatches (.ref e) (.ref B)) Q E s := by
  obtain ⟨hp, g, d, tk, os⟩ := s
  have L1 := PySem.W.looks_typeIn (M := model prog w) X c.ty
  have L2 := PySem.W.looks_mroIn (M := model prog w) X c.exc
  have L3 := PySem.W.looks_mroIn (M := model prog w) X hm
  have f := tc_notTuple
  have L4 : PySem.W.Looks (model prog w) hp (isType (.ref B)) true := by
    have z0 := c.cls
    unfold PySem.W.clsIn at z0
    split at z0
    · rename_i c' d' cd' sl' ho
      intro A' Q' E' s' k q
      unfold isType loadHead
      exact wpAny_bind (wpAny_loadPart (k _ _ (X _ _ ho)) (wpAny_pure q))
    · cases z0
  have L5 : PySem.W.Looks (model prog w) hp (isExcClass (.ref B)) true := L4.andThen L2
  unfold excMatches isInstance
  refine wpAny_bind (wpAny_bind (L1.at ?_))
  rw [f]
  refine wpAny_pure ?_
  simp only [Bool.false_eq_true, if_false]
  refine wpAny_bind (wpAny_pure ?_)
  simp only [List.forIn_cons, List.forIn_nil]
  refine wpAny_bind (wpAny_bind (wpAny_bind (L5.at ?_)))
  simp only [Bool.not_true, Bool.false_eq_true, if_false]
  refine wpAny_pure (wpAny_pure (wpAny_bind ?_))
  unfold typeOf
  refine wpAny_bind (wpAny_loadPart_at he (wpAny_pure ?_))
  rw [hc]
  refine wpAny_bind (wpAny_bind (wpAny_bind (L3.at ?_)))
  simp only [if_true]
  exact wpAny_pure (wpAny_pure (wpAny_pure h))
end L2

set_option Elab.async false
set_option linter.all false
set_option maxRecDepth 100000
/-! L3: try, except -/
namespace L2
open PySem PySem.Spec PyProof.Rows

/-- an expression whose callee may refuse; the state at the refusal is the one at the call -/
def PEx (X : Cx) (e : Expr) (t : XK → TE) : Prop :=
  ∀ (E : XK) (ξ : Value → Shared → Prop) (pins : List (Addr × Obj)) (s : Shared) (σ : St) (H : Hp) (Q : VK), Inv X pins σ H s → t E σ H Q →
    (∀ H1 s1 e s', Inv X pins σ H1 s1 → CXE X.prog X.w X.stack H1 s1 E e s' → ξ e s') → wpAny (model X.prog X.w) X.A (eval e X.env) (EP X pins σ Q) ξ s
section
variable {X : Cx} {k : Nat} {f : Addr} {fd : FuncData} {ps : List Str} {sp : Sp} {dvs : List V} {ds : List Value} {x : Str} {p pos : Pos} {e : Expr} {es : List Expr} {t : TA}
theorem pex_call (F : FnOk X.prog X.w X.K X.mg X.base (CXE X.prog X.w) k f fd ps sp) (hr : Room k X.A) (hg : Gl X x) (hm : X.mg x = some (.ref f)) (hk : PySem.W.keepIn X.K (.ref f) = true) (hb : Binds X.K fd ps ds) (hd : Vals dvs ds)
    (ha : ∀ ξ, PA (X.wish ξ) (e :: es) t) (hdb : (x == ("__debug__" : Str)) = false := by decide) (he : starEach (e :: es) X.env = (false, eval e X.env) :: starEach es X.env := by rfl) (hpl : (backTo pos (starEach es X.env)).any (·.1) = false := by rfl) :
    PEx X (.Call (.Name x p) (e :: es) [] pos) (fun E => tCall sp dvs E t) := by
  intro E ξ pins s σ H Q I h hx
  refine wpAny_Call_Name_kw (ld_glob I hg hm ?_ hdb)
  refine PySem.W.callWith_K (h₀ := X.base) I.ok.mod.kin hk (thn (ha ξ pos pins s σ H _ (I.wish ξ) h) fun us s1 ⟨vs, H1, I1, r, q⟩ => ⟨I1.kIn, ?_⟩) he hpl
  have I1' := I1.unwish
  have r2 : Vals (vs ++ dvs) (us ++ ds) := r.append hd
  have hl : (us ++ ds).length = ps.length := by rw [← r2.length]; exact F.len _ _ _ _ q
  refine wpAny_call (codeAny_mono (F.run X.A X.stack s1 H1 ⟨us, []⟩ (us ++ ds) (vs ++ dvs) Q E hr I1'.env0 (hb s1 us I1'.kIn hl) r2 q) fun r s' hq => ?_)
  cases r with
  | error e => exact hx H1 s1 e s' I1' hq
  | ok fl =>
    cases fl with
    | ret u => exact I1'.after hq
    | next => exact False.elim hq
    | brk => exact False.elim hq
    | cont => exact False.elim hq

def tTry (K : PySem.W.Frag) (B : Addr) (iE : Nat) (tc : XK → TE) (ok : St → V → St) (ts : TS) : TS := fun D σ H =>
  tc (fun cls od H' => (∃ C, cls = .ref C ∧ PySem.W.mroIn K C (.ref B) = some true) ∧ ∀ e, H' e = none → ts { nx := fun σ2 H2 => D.nx (σ2.set iE none) H2, rt := fun _ _ => False } (σ.set iE (some (.ref e))) (upd H' e (ExcO e cls od))) σ H
    fun v H1 => D.nx (ok σ v) H1

variable {ce : Expr} {tc : XK → TE} {B n : Str} {aB : Addr} {iE : Nat} {np hpos epos tpos : Pos} {b0 : Stmt} {suite : List Stmt} {ts : TS} {D : Ends} {pins : List (Addr × Obj)} {σ : St}
/-- a refusal that came back is caught by the one clause -/
theorem try_lands (hc : X.calm = true) (hN : X.N.Nodup) (hi : X.N[iE]? = some n) (hl : X.env.scope.names.lookup n = some .local) (hstk : X.stack = X.env :: X.outer) (hf : X.env.frame = some X.env.locals) (hgB : Gl X B) (hmB : X.mg B = some (.ref aB)) (cB : Catch X.K aB)
    (hs : ∀ e, PSs (X.caught e) (b0 :: suite) ts) (hdb : (B == ("__debug__" : Str)) = false) {H1 : Hp} {s1 s' : Shared} {e : Value} (I1 : Inv X pins σ H1 s1)
    (h : CXE X.prog X.w X.stack H1 s1 (fun cls od H' => (∃ C, cls = .ref C ∧ PySem.W.mroIn X.K C (.ref aB) = some true) ∧ ∀ e, H' e = none → ts { nx := fun σ2 H2 => D.nx (σ2.set iE none) H2, rt := fun _ _ => False } (σ.set iE (some (.ref e))) (upd H' e (ExcO e cls od))) e s') :
    wpAny (model X.prog X.w) X.A (noteFrame e X.env) (fun _ s₂ => wpAny (model X.prog X.w) X.A (setFlight e none) (fun _ s₃ =>
      wpAny (model X.prog X.w) X.A (handleBy e X.env [.ExceptHandler (some (.Name B np)) (some n) (b0 :: suite) hpos]) (SP X pins D) X.xe s₃) X.xe s₂) X.xe s' := by
  obtain ⟨a, cls, od, H', rfl, h1, h2, h3, h4, ⟨T, hp, n1, n2, n3, n4⟩, ⟨C, rfl, hmro⟩, q⟩ := h
  have J := I1.call' h1 h3 h4 h2 (fun _ z => nomatch z)
  have fra : X.A.frames = some (X.env :: X.outer) := by rw [← hstk]; exact J.ok.frames
  have sta : s'.heap.FunFrames X.base (X.env :: X.outer) := by rw [← hstk]; exact J.stack
  refine Fly.lands (base := X.base) (outer := X.outer) fra sta hf hp fun h5 T' x => ?_
  have frq : (X.env :: X.outer).filterMap (·.frame) = frs X.stack := by rw [hstk]; rfl
  rw [frq] at x
  have un5 : Un (frs X.stack) [] H1 (upd H' a (ExcO a (.ref C) od)) s1.heap h5 :=
    (un_lit h3 x n1 (fun t ht => by rw [List.mem_singleton.mp ht]; exact n2) fun b hb => .inl hb).track n3 n1
  have k5 : HOk X.prog X.w H' h5 := hok_lit h4 x n3 (fun t ht => by rw [List.mem_singleton.mp ht]; exact n4) J.stkFree
  obtain ⟨oe, vs, he, hcl, hdi, hda, h1v⟩ := x.ex
  obtain ⟨oT, ts', hT, hdT, h3T⟩ := x.tr
  have ok5 : HOk X.prog X.w (upd H' a (ExcO a (.ref C) od)) h5 := k5.more (fun _ _ _ z => z) n3 ⟨⟨oe, vs, he, hcl, hdi, hda⟩, ⟨oe, he⟩, fun g1 g2 ⟨o1, v1, z1, z2⟩ k => ⟨o1, v1, k o1 z1, z2⟩⟩
  have I5 : Inv X pins σ (upd H' a (ExcO a (.ref C) od)) { s' with heap := h5 } := I1.call' (s' := { s' with heap := h5 }) h1 un5 ok5 h2 (fun _ z => nomatch z)
  have I5' := I5.caught a
  refine wpAny_handleBy_cons (codeAny_handlers_test ?_) (by intro q; cases q)
  refine ld_glob (X := X.caught a) I5' hgB hmB ?_ hdb
  refine exc_hits I5.kIn cB he hcl hmro ?_
  refine codeAny_handlers_suite_as (Fly.down (s := { s' with heap := h5 }) he hda h1v hT hdT h3T ?_)
  refine store_ok (X := X.caught a) I5' hN hi (.inl hl) (v := .ref a) (u := .ref a) rfl (fun s6 I6 => ?_) (.inr hl)
  refine wpAny_mono (hs a pins s6 _ _ { nx := fun σ2 H2 => D.nx (σ2.set iE none) H2, rt := fun _ _ => False } I6 (q a n3)) (fun fl s7 sp7 => ?_) fun _ _ z => z.elim
  cases fl with
  | next =>
    obtain ⟨σ7, H7, I7, q7⟩ := sp7
    exact name_gone (I7.uncaught I1.ok) hN hi hl fun s8 I8 => ⟨_, H7, I8, q7⟩
  | ret v => obtain ⟨_, _, _, _, _, z⟩ := sp7; exact z.elim
  | brk => obtain ⟨_, _, _, z⟩ := sp7; exact z.elim
  | cont => obtain ⟨_, _, _, z⟩ := sp7; exact z.elim

end
end L2

set_option Elab.async false
set_option linter.all false
set_option maxRecDepth 100000
/-! L3: the attributes of an own refusal -/
namespace L2
open PySem PySem.Spec PySem.W PyProof.Rows

/-- what of the text a class of refusals must have -/
structure ExcC (K : PySem.W.Frag) (C : Addr) : Prop where
  ga : findIn K (.ref C) "__getattribute__" = some (some (.builtin "BaseException.__getattribute__"))
  gh : findIn K (.ref C) "__getattr__" = some none
  be : mroIn K C (.type "BaseException") = some true
  ob : mroIn K C (.type "object") = some true
  cl : findIn K (.ref C) "__class__" = some (some (.builtin "object.__class__"))
  hn : specialIn K (.builtin "object.__class__") "__get__" = some (some (.builtin "getset_descriptor.__get__"))
  tk : takesIn K (.builtin "object.__class__") = some true
  cls : (clsIn K C).isSome = true

section
variable {prog : Program} {w : World} {A : Around} {E : Value → Shared → Prop} {s : Shared} {K : PySem.W.Frag} {x C : Addr} {ox : Obj} {od : Option Obj} {name : Str} {tk : Tok}
theorem exc_check {M : Model} {Q : Unit → Shared → Prop} {nameV : Value} (X : K.In s.heap) (I : PySem.W.InstAt s.heap x ox C od) (c : ExcC K C) (hq : Q () s) : wpAny M A (checkBuiltinCall "BaseException.__getattribute__" ⟨[.ref x, nameV], []⟩) Q E s := by
  have hk : builtinKind "BaseException.__getattribute__" = some .slot := by decide +kernel
  have hsplit : splitId "BaseException.__getattribute__" = some ("BaseException", "__getattribute__") := by decide +kernel
  have ha := F.args_bexc_ga (.ref x) nameV
  obtain ⟨hp, g, d, t, os⟩ := s
  have L0 := I.type (M := M)
  have L1 := looks_mroIn (M := M) X c.be
  have LI : Looks M hp (isInstance (.ref x) (.type "BaseException")) true := L0.andThen L1
  simp only [checkBuiltinCall, hk, hsplit]
  refine wpAny_bind (LI.at ?_)
  repeat (any_goals (first | assumption | wp_step))
theorem exc_by {fill expr : Bool} {Q : Value → Shared → Prop} (X : K.In s.heap) (I : PySem.W.InstAt s.heap x ox C od) (c : ExcC K C)
    (h : ∀ A' : Around, wpAny (model prog w) A' (Builtin.«object.__getattribute__» ⟨[.ref x, .str name tk], []⟩) (fun fin s' => ∃ v, fin = .done (.ret v) ∧ handedIn v = true ∧ Q v s') (fun _ _ => False) s) :
    wpAny (model prog w) A (getAttrBy (.ref x) (.str name tk) fill expr) Q E s := by
  obtain ⟨hp, g, d, t, os⟩ := s
  have L0 := I.type (M := model prog w)
  have L1 := looks_findIn (M := model prog w) X c.ga
  have L2 := looks_findIn (M := model prog w) X c.gh
  have f3 := F.excAttr_ValueError.ga.bind (.ref x)
  unfold getAttrBy
  refine wpAny_holding (wpAny_bind (L0.at (wpAny_bind (L1.at ?_))))
  have e1 : (onTheHeap (Value.ref C) && Value.builtin "BaseException.__getattribute__" == Value.builtin "object.__getattribute__") = false := by
    have e0 : (Value.builtin "BaseException.__getattribute__" == Value.builtin "object.__getattribute__") = false := by decide +kernel
    rw [e0, Bool.and_false]
  simp only [e1, Bool.false_eq_true, if_false]
  unfold getAttrByItsOwn hookBefore
  have e2 : onTheHeap (Value.ref C) = true := rfl
  simp only [e2, if_true]
  refine wpAny_bind (L2.at (wpAny_bind (wpAny_attempt (wpAny_holding ?_))))
  have e3 : (expr && onTheHeap (Value.builtin "BaseException.__getattribute__")) = false := by cases expr <;> rfl
  unfold callGetattribute
  simp only [e3, Bool.false_eq_true, if_false]
  unfold boundAndCalled
  rw [f3]
  refine wpAny_bind (wpAny_pure ?_)
  dsimp only
  refine wpAny_call (codeAny_call_builtin F.excAttr_ValueError.ga.plain F.entry_bexc_ga (exc_check X I c (wpAny_mono (h _) (fun fin s' z => ?_) fun _ _ z => z.elim)))
  obtain ⟨v, rfl, hv, q⟩ := z
  show wpAny _ _ (handedOut v) _ _ _
  rw [handedOut_of hv]
  exact wpAny_pure q
/-- an attribute that its dict holds -/
theorem exc_own {A' : Around} {v : Value} (X : K.In s.heap) (I : PySem.W.InstAt s.heap x ox C od) (hf : findObj K C od name = some (.value v)) {Q : Fin → Shared → Prop} (q : Q (.done (.ret v)) s) :
    wpAny (model prog w) A' (Builtin.«object.__getattribute__» ⟨[.ref x, .str name tk], []⟩) Q E s := by
  obtain ⟨hp, g, d, t, os⟩ := s
  have L0 := I.type (M := model prog w)
  have L1 := looks_find (M := model prog w) X I hf
  unfold Builtin.«object.__getattribute__»
  refine wpAny_bind (wpAny_pure ?_)
  dsimp only
  refine wpAny_bind (wpAny_pure (wpAny_bind (L0.at (wpAny_bind (L1.at ?_)))))
  exact wpAny_pure q
/-- its class, by its attribute -/
theorem exc_class {Q : Option Value → Shared → Prop} (X : K.In s.heap) (I : PySem.W.InstAt s.heap x ox C od) (c : ExcC K C) (h : Q (some (.ref C)) { s with toks := s.toks + 1 }) : wpAny (model prog w) A (getAttr? (.ref x) "__class__") Q E s := by
  have hf : findObj K C od "__class__" = some (.bind (.builtin "getset_descriptor.__get__") (.builtin "object.__class__")) := by
    obtain ⟨cd, hc⟩ := Option.isSome_iff_exists.mp c.cls
    unfold findObj
    rw [hc, Option.bind_some, c.cl, Option.bind_some]
    dsimp only
    rw [c.hn, Option.bind_some]
    dsimp only
    rw [c.tk, Option.bind_some]
  unfold getAttr? getAttrBy?
  refine wpAny_bind (wpAny_mkText (wpAny_bind (wpAny_attempt (exc_by (s := { s with toks := s.toks + 1 }) X I c (Q := fun v s' => wpAny (model prog w) A (pure (some v)) Q E s') (fun A' => ?_)))))
  obtain ⟨hp, g, d, t, os⟩ := s
  have L0 := I.type (M := model prog w)
  have L1 := looks_find (M := model prog w) X I hf
  unfold Builtin.«object.__getattribute__»
  refine wpAny_bind (wpAny_pure ?_)
  dsimp only
  refine wpAny_bind (wpAny_pure (wpAny_bind (L0.at (wpAny_bind (L1.at ?_)))))
  show wpAny _ _ (holding [Value.builtin "object.__class__"] (call (.builtin "getset_descriptor.__get__") [.builtin "object.__class__", .ref x, .ref C]) >>= ret) _ _ _
  refine wpAny_bind (wpAny_holding (wpAny_call ?_))
  refine class_get (s := ⟨hp, g, d, t + 1, os⟩) (ox := ox) (od := od) X I c.ob ?_
  exact wpAny_pure ⟨_, rfl, rfl, wpAny_pure h⟩
end
end L2

set_option Elab.async false
set_option linter.all false
set_option maxRecDepth 100000
/-! L3: isinstance -/
namespace L2
open PySem PySem.Spec PyProof.Rows

theorem kitx_exc {K : PySem.W.Frag} {x C : Addr} {ox : Obj} {od : Option Obj} (c : ExcC K C) : PySem.W.KitX K (.ref x) (.ref C) (fun h => PySem.W.InstAt h x ox C od) where
  ty := fun _ _ _ I => I.type
  it := fun _ _ X _ => by
    have z0 := c.cls
    unfold PySem.W.clsIn at z0
    split at z0
    · rename_i c' d' cd' sl' ho
      intro A' Q' E' s' k q
      unfold isType loadHead
      exact wpAny_bind (wpAny_loadPart (k _ _ (X _ _ ho)) (wpAny_pure q))
    · cases z0
  ne := fun h tp dd its n sl X htp => by
    refine Bool.eq_false_iff.mpr fun q => ?_
    have e : C = tp := Value.ref.inj (beq_iff_eq.mp q)
    subst e
    have z0 := c.cls
    unfold PySem.W.clsIn at z0
    split at z0
    · rename_i c' d' cd' sl' ho
      have z := (X _ _ ho).symm.trans htp
      cases z
    · cases z0
  ca := fun X I k => exc_class X I c k

def OdOk (H : Hp) (od : Option Addr) : Prop := od = none ∨ ∃ dx fs, od = some dx ∧ H dx = some (.xd fs)
/-- the type of a value -/
inductive TyX (K : PySem.W.Frag) (H : Hp) : V → Value → Prop where
  | of {v : V} {t : Value} (h : TyOf K H v t) : TyX K H v t
  | exc {e C : Addr} {od : Option Addr} (h : H e = some (ExcO e (.ref C) od)) (o : OdOk H od) (c : ExcC K C) : TyX K H (.ref e) (.ref C)

section
variable {X : Cx} {pins : List (Addr × Obj)} {σ : St} {H : Hp} {s : Shared}
theorem inst_of {e C : Addr} {od : Option Addr} (I : Inv X pins σ H s) (h : H e = some (ExcO e (.ref C) od)) (o : OdOk H od) : ∃ ox od', PySem.W.InstAt s.heap e ox C od' ∧ (∀ dx fs, od = some dx → H dx = some (.xd fs) → ∃ obj, od' = some obj ∧ s.heap.get? dx = some obj) := by
  obtain ⟨⟨oe, vs, h1, h2, h3, h4⟩, _, _⟩ := (show ObjOk X.prog X.w H s.heap e (ExcO e (.ref C) od) from I.hok e _ h)
  have no : PySem.W.notCls oe = true := by unfold PySem.W.notCls; rw [h4]
  rcases o with rfl | ⟨dx, fs, rfl, hx⟩
  · exact ⟨oe, none, ⟨h1, h2, no, by rw [h3]; trivial⟩, fun dx fs z => nomatch z⟩
  · obtain ⟨mA, ⟨ob, es, ep, g1, _⟩, _⟩ := (show ObjOk X.prog X.w H s.heap dx (.xd fs) from I.hok dx _ hx)
    refine ⟨oe, some ob, ⟨h1, h2, no, by rw [h3]; exact g1⟩, fun dx' fs' z z2 => ?_⟩
    cases z
    exact ⟨ob, rfl, g1⟩
def clsV : V → Value
  | .ty n => .type n
  | .ref a => .ref a
  | _ => .none
def isCl : V → Bool
  | .ty _ => true
  | .ref _ => true
  | _ => false
theorem clsV_of {c : V} {u : Value} (r : RelV c u) (h : isCl c = true) : u = clsV c := by
  cases c <;> first | exact r | cases h
theorem clsV_all : ∀ {cs : List V} {us : List Value}, Vals cs us → cs.all isCl = true → us = cs.map clsV
  | [], _, .nil, _ => rfl
  | c :: cs, _, .cons r t, h => by
    have h' : isCl c = true ∧ cs.all isCl = true := by simpa using h
    rw [List.map_cons, ← clsV_of r h'.1, ← clsV_all t h'.2]
def rIsi (K : PySem.W.Frag) : List V → Hp → VK → Prop := fun xs H Q => ∃ x c t, xs = [x, c] ∧ TyX K H x t ∧
  ((isCl c = true ∧ ∃ b, PySem.W.kitOne K t (clsV c) = some b ∧ Q (.bl b) H) ∨ (∃ p cs b, c = .ref p ∧ H p = some (.tup cs) ∧ cs.all isCl = true ∧ PySem.W.kitAny K t (cs.map clsV) = some b ∧ Q (.bl b) H))
theorem kit_ty {A : Around} {E : Value → Shared → Prop} {x : V} {u t : Value} (I : Inv X pins σ H s) (rx : RelV x u) (ty : TyX X.K H x t) : u ≠ .builtin "__main__.__loader__#opaque" ∧ ∃ Hh : Heap → Prop, PySem.W.KitX X.K u t Hh ∧ Hh s.heap := by
  cases ty with
  | exc h o c =>
    cases rx
    obtain ⟨ox, od', J, _⟩ := inst_of I h o
    exact ⟨fun z => (nomatch z), _, kitx_exc c, J⟩
  | of h =>
    cases h with
    | non => cases (show u = Value.none from rx); exact ⟨fun z => (nomatch z), _, PySem.W.kitx_none, True.intro⟩
    | bl y => cases (show u = Value.bool y from rx); exact ⟨fun z => (nomatch z), _, PySem.W.kitx_bool, True.intro⟩
    | int i => obtain ⟨t, q⟩ := (show ∃ t, u = Value.int i t from rx); cases q; exact ⟨fun z => (nomatch z), _, PySem.W.kitx_int, True.intro⟩
    | str y => obtain ⟨t, q⟩ := (show ∃ t, u = Value.str y t from rx); cases q; exact ⟨fun z => (nomatch z), _, PySem.W.kitx_str, True.intro⟩
    | flt y => obtain ⟨t, q⟩ := (show ∃ t, u = Value.float y t from rx); cases q; exact ⟨fun z => (nomatch z), _, PySem.W.kitx_float, True.intro⟩
    | @lst a xs ea =>
      cases (show u = Value.ref a from rx)
      obtain ⟨_, _, n, _, h1⟩ := (show ObjOk X.prog X.w H s.heap a (.lst xs) from I.hok a _ ea)
      exact ⟨fun z => (nomatch z), _, PySem.W.kitx_list, ⟨_, h1, rfl⟩⟩
    | @frz a ob xs ea =>
      cases (show u = Value.ref a from rx)
      obtain ⟨_, _, _, n, _, h1⟩ := (show ObjOk X.prog X.w H s.heap a (.frz ob (.lst xs)) from I.hok a _ ea)
      exact ⟨fun z => (nomatch z), _, PySem.W.kitx_list, ⟨_, h1, rfl⟩⟩
    | @tup a xs ea =>
      cases (show u = Value.ref a from rx)
      obtain ⟨_, _, _, o, h1, h2, _⟩ := (show ObjOk X.prog X.w H s.heap a (.tup xs) from I.hok a _ ea)
      exact ⟨fun z => (nomatch z), _, PySem.W.kitx_tuple, ⟨o, h1, h2⟩⟩
    | @dK a kvs ea =>
      cases (show u = Value.ref a from rx)
      obtain ⟨_, _, vs, _, o, es, ep, h1, h2, _⟩ := (show ObjOk X.prog X.w H s.heap a (.dK kvs) from I.hok a _ ea)
      exact ⟨fun z => (nomatch z), _, PySem.W.kitx_dict, ⟨o, h1, h2.1⟩⟩
    | @dT a kvs ea =>
      cases (show u = Value.ref a from rx)
      obtain ⟨_, _, xs, _, o, es, ep, h1, h2, _⟩ := (show ObjOk X.prog X.w H s.heap a (.dT kvs) from I.hok a _ ea)
      exact ⟨fun z => (nomatch z), _, PySem.W.kitx_dict, ⟨o, h1, h2.1⟩⟩
    | @ins a C dx fs ea cl ha hn htk hm =>
      cases (show u = Value.ref a from rx)
      obtain ⟨mA, O, _⟩ := ins_get I.hok ea
      obtain ⟨od, J, _⟩ := O.look
      exact ⟨fun z => (nomatch z), _, PySem.W.kitx_own (cl.get _) cl.hd ha hn htk hm, J⟩
theorem call_isi : CallR X (.builtin "isinstance") (rIsi X.K) := by
  intro pins s σ H xs us Q I r h
  obtain ⟨x, c, t, rfl, ty, h⟩ := h
  obtain ⟨u, v, rfl, rx, rc⟩ := vals2 r
  obtain ⟨hx, Hh, kx, p0⟩ := kit_ty (A := X.A) (E := X.xe) I rx ty
  rcases h with ⟨hc, b, e, q⟩ | ⟨p, cs, b, rfl, hp, hcs, e, q⟩
  · rw [clsV_of rc hc]
    exact PySem.W.kia_one kx I.kIn p0 e hx fun tk => ⟨.bl b, H, I.tok tk, rfl, q⟩
  · cases rc
    obtain ⟨_, its, rv, o, h1, h2, n, h3⟩ := (show ObjOk X.prog X.w H s.heap p (.tup cs) from I.hok p _ hp)
    obtain ⟨oc, od, oda, osl⟩ := o
    dsimp only at h2 h3
    subst h2 h3
    refine PySem.W.kia_tup kx I.kIn p0 h1 (b := b) ?_ hx fun tk => ⟨.bl b, H, I.tok tk, rfl, q⟩
    rw [clsV_all rv hcs]
    exact e
end
end L2

/-! the mathematics of banks, over plain lists -/
namespace Bk
/-- a row: its ground (true: dry), its long -/
abbrev Rw := Bool × Int
def put (bs : List Rw) (r : Rw) : List Rw :=
  match bs.getLast? with
  | none => if 0 < r.2 then [r] else []
  | some b => if b.1 = r.1 then bs.dropLast ++ [(r.1, b.2 + r.2)] else if 0 < r.2 then bs ++ [r] else bs
theorem put_nil (r : Rw) : put [] r = if 0 < r.2 then [r] else [] := rfl
theorem put_snoc (bs : List Rw) (b r : Rw) : put (bs ++ [b]) r = if b.1 = r.1 then bs ++ [(r.1, b.2 + r.2)] else if 0 < r.2 then bs ++ [b] ++ [r] else bs ++ [b] := by
  unfold put
  rw [List.getLast?_append]
  simp
def tidy (rs : List Rw) : List Rw := rs.foldl put []
theorem tidy_snoc (rs : List Rw) (r : Rw) : tidy (rs ++ [r]) = put (tidy rs) r := by
  unfold tidy
  rw [List.foldl_append]; rfl
theorem snoc_cases {α : Type} (l : List α) : l = [] ∨ ∃ i x, l = i ++ [x] := by
  rcases List.eq_nil_or_concat l with h | ⟨i, x, h⟩
  · exact .inl h
  · exact .inr ⟨i, x, by rw [h, List.concat_eq_append]⟩
theorem put_length (bs : List Rw) (r : Rw) : (put bs r).length ≤ bs.length + 1 := by
  rcases snoc_cases bs with rfl | ⟨i, b, rfl⟩
  · rw [put_nil]; split <;> simp
  · rw [put_snoc]
    split
    · simp
    · split <;> simp
theorem tidy_length (rs : List Rw) : (tidy rs).length ≤ rs.length := by
  have key : ∀ (rs acc : List Rw), (rs.foldl put acc).length ≤ acc.length + rs.length := by
    intro rs
    induction rs with
    | nil => intro acc; simp
    | cons r t ih =>
      intro acc
      have h1 := ih (put acc r)
      have h2 := put_length acc r
      simp only [List.foldl_cons, List.length_cons]; omega
  have := key rs []
  simpa [tidy] using this
end Bk

set_option Elab.async false
set_option linter.all false
set_option maxRecDepth 100000
/-! L3: defs with defaults; banks on the heap -/
namespace L2
open PySem PySem.Spec PyProof.Rows

/-- a def of the text, its defaults at dV -/
structure FunG (K : PySem.W.Frag) (x qual : Str) (st : Stmt) (f : Addr) (fd : FuncData) (dV : Value) : Prop where
  ex : ∃ (oc : Value) (od : Option Addr) (kV doc pm : Value) (an : Option Addr) (cdv ct : Value) (osl : Array (Option Value)),
    fd = PySem.W.fnOf x qual (defArgs st) (defBody st) (defScope st) dV kV doc pm an cdv ct ∧ K.lookup f = some ⟨oc, od, .func fd, osl⟩ ∧ PySem.W.codeIn K cdv qual = true
  kp : PySem.W.keepIn K (.ref f) = true
section
variable {P : Program} {w : World} {K : PySem.W.Frag} {mg : Str → Option Value} {base : Heap} {x qual : Str} {st : Stmt} {f : Addr} {fd : FuncData} {dV : Value} {N ps : List Str} {k : Nat} {sp : Sp}
theorem FunG.ok (F : FunG K x qual st f fd dV) (S : FnScope N ps (defScope st)) (len : ∀ vs H Q E, sp vs H Q E → vs.length = ps.length)
    (hbody : ∀ (cdv : Value) (A : Around) (outer : List Env) (s : Shared) (H : Hp) (vs : List V) (Q : VK) (E : XK), Room k (A.deeper (envOfC qual (defScope st) s.heap.objs.size f cdv)) → sp vs H Q E →
      ∃ t, PSs (cxOf CX0 P w K mg base N qual (defScope st) f cdv A outer s H E).nox (defBody st) t ∧ t { nx := fun _ H' => Q .non H', rt := Q } (start N vs) H) : FnOk P w K mg base CX0 (k + 1) f fd ps sp := by
  obtain ⟨oc, od, kV, doc, pm, an, cdv, ct, osl, rfl, lk, hcd⟩ := F.ex
  exact fn_of lk hcd S len fun A outer s H vs Q E hr h => let ⟨t, h1, h2⟩ := hbody cdv A outer s H vs Q E hr h; ⟨t, h1.nox, h2⟩
theorem FunG.okE (F : FunG K x qual st f fd dV) (S : FnScope N ps (defScope st)) (len : ∀ vs H Q E, sp vs H Q E → vs.length = ps.length)
    (hbody : ∀ (cdv : Value) (A : Around) (outer : List Env) (s : Shared) (H : Hp) (vs : List V) (Q : VK) (E : XK), Room k (A.deeper (envOfC qual (defScope st) s.heap.objs.size f cdv)) → sp vs H Q E →
      ∃ t, PSs (cxOf (CXE P w) P w K mg base N qual (defScope st) f cdv A outer s H E) (defBody st) t ∧ t { nx := fun _ H' => Q .non H', rt := Q } (start N vs) H) : FnOk P w K mg base (CXE P w) (k + 1) f fd ps sp := by
  obtain ⟨oc, od, kV, doc, pm, an, cdv, ct, osl, rfl, lk, hcd⟩ := F.ex
  exact fn_of lk hcd S len fun A outer s H vs Q E hr h => hbody cdv A outer s H vs Q E hr h
theorem fung_mk {oc : Value} {od an : Option Addr} {osl : Array (Option Value)} {kV doc pm cdv ct : Value} (l : K.lookup f = some ⟨oc, od, .func (PySem.W.fnOf x qual (defArgs st) (defBody st) (defScope st) dV kV doc pm an cdv ct), osl⟩)
    (c : PySem.W.codeIn K cdv qual = true) (k : PySem.W.keepIn K (.ref f) = true) : FunG K x qual st f (PySem.W.fnOf x qual (defArgs st) (defBody st) (defScope st) dV kV doc pm an cdv ct) dV :=
  ⟨⟨oc, od, kV, doc, pm, an, cdv, ct, osl, rfl, l, c⟩, k⟩
/-- no defaults: h is «fun _ _ _ _ _ _ us hl => match us, hl with | [_, _], _ => rfl» -/
theorem FunG.binds (F : FunG K x qual st f fd .none)
    (h : ∀ (kV doc pm : Value) (an : Option Addr) (cdv ct : Value) (us : List Value), us.length = ps.length → bindArgs (PySem.W.fnOf x qual (defArgs st) (defBody st) (defScope st) .none kV doc pm an cdv ct) ⟨us, []⟩ = pure (ps.zip us)) : Binds K fd ps [] := by
  obtain ⟨oc, od, kV, doc, pm, an, cdv, ct, osl, rfl, lk, hcd⟩ := F.ex
  exact Binds.all fun us hl => h kV doc pm an cdv ct us hl
end

/-- all that a caller needs of a def without defaults -/
structure Df (K : PySem.W.Frag) (mg : Str → Option Value) (x : Str) (st : Stmt) (ps : List Str) (f : Addr) (fd : FuncData) : Prop where
  fn : FunG K x x st f fd .none
  gl : mg x = some (.ref f)
  bd : Binds K fd ps []

/-! ### banks on the heap -/
def gs (g : Bool) : Str := if g then "dry" else "wet"
theorem gs_inj {a b : Bool} : gs a = gs b ↔ a = b := by cases a <;> cases b <;> decide +kernel
def RowAt (H : Hp) (v : V) (r : Bk.Rw) : Prop := ∃ p, v = .ref p ∧ H p = some (.tup [.str (gs r.1), .int r.2])
abbrev RowsAt (H : Hp) : List V → List Bk.Rw → Prop := Paired (RowAt H)
/-- tuples stay -/
def Tps (H H' : Hp) : Prop := ∀ b xs, H b = some (.tup xs) → H' b = some (.tup xs)
theorem Same.tps {H H' : Hp} (h : Same H H') : Tps H H' := fun b xs e => h b _ e
theorem RowAt.mono {H H' : Hp} {v : V} {r : Bk.Rw} (h : RowAt H v r) (t : Tps H H') : RowAt H' v r := let ⟨p, e, q⟩ := h; ⟨p, e, t p _ q⟩
theorem RowsAt.mono {H H' : Hp} {vs : List V} {rs : List Bk.Rw} (h : RowsAt H vs rs) (t : Tps H H') : RowsAt H' vs rs := Paired.mapP h fun _ _ q => q.mono t
theorem RowsAt.snoc {H : Hp} {vs : List V} {rs : List Bk.Rw} {v : V} {r : Bk.Rw} (h : RowsAt H vs rs) (q : RowAt H v r) : RowsAt H (vs ++ [v]) (rs ++ [r]) := Paired.snoc h q
theorem RowsAt.get {H : Hp} : ∀ {vs : List V} {rs : List Bk.Rw} {i : Nat} {v : V}, RowsAt H vs rs → vs[i]? = some v → ∃ r, rs[i]? = some r ∧ RowAt H v r
  | _, _, 0, _, .cons h _, e => by simp at e; subst e; exact ⟨_, by simp, h⟩
  | _, _, i + 1, _, .cons _ t, e => by
    obtain ⟨r, h1, h2⟩ := RowsAt.get (i := i) t (by simpa using e)
    exact ⟨r, by simpa using h1, h2⟩
  | _, _, _, _, .nil, e => by simp at e
theorem RowsAt.split {H : Hp} {rs : List Bk.Rw} {r : Bk.Rw} : ∀ {vs : List V}, RowsAt H vs (rs ++ [r]) → ∃ ws v, vs = ws ++ [v] ∧ RowsAt H ws rs ∧ RowAt H v r := by
  induction rs with
  | nil =>
    intro vs h
    cases h with
    | cons h1 t => cases t; exact ⟨[], _, rfl, .nil, h1⟩
  | cons a rs ih =>
    intro vs h
    cases h with
    | cons h1 t =>
      obtain ⟨ws, v, rfl, h2, h3⟩ := ih t
      exact ⟨_ :: ws, v, rfl, .cons h1 h2, h3⟩
theorem same_new {H : Hp} {p : Addr} {o : HO} (h : H p = none) : Same H (upd H p o) := fun b u e => by rw [upd_ne (ne_of_none e h)]; exact e
/-- a thing that was new is written: what was there stays -/
theorem Same.write {H H1 : Hp} {p : Addr} {o : HO} (s : Same H H1) (h : H p = none) : Same H (upd H1 p o) := fun b u e => by rw [upd_ne (ne_of_none e h)]; exact s b u e
def rowD (r : Bk.Rw) : PyData := .tuple [.str (gs r.1), .int r.2]
def rowsD (rs : List Bk.Rw) : PyData := .list (rs.map rowD)
theorem rowAt_dat {K : PySem.W.Frag} {H : Hp} {v : V} {r : Bk.Rw} (h : RowAt H v r) : DatR K H (rowD r) v := by
  obtain ⟨p, rfl, e⟩ := h
  exact ⟨p, _, rfl, SqT.of e, _, _, rfl, rfl, _, _, rfl, rfl, rfl⟩
theorem rowsAt_dat {K : PySem.W.Frag} {H : Hp} : ∀ {vs : List V} {rs : List Bk.Rw}, RowsAt H vs rs → DatA K H (rs.map rowD) vs
  | _, _, .nil => rfl
  | _, _, .cons h t => ⟨_, _, rfl, rowAt_dat h, rowsAt_dat t⟩
theorem rows_dat {K : PySem.W.Frag} {H : Hp} {a : Addr} {vs : List V} {rs : List Bk.Rw} (h : SqL K H a vs) (r : RowsAt H vs rs) : DatR K H (rowsD rs) (.ref a) := ⟨a, vs, rfl, h, rowsAt_dat r⟩
theorem gs_ok (g : Bool) : PyData.strOk (gs g) = true := by cases g <;> decide +kernel
theorem rowsD_can (rs : List Bk.Rw) : (rowsD rs).canLay0 = true := by
  show PyData.canLayAll0 (rs.map rowD) = true
  induction rs with
  | nil => rfl
  | cons r t ih =>
    show (PyData.canLay0 (rowD r) && PyData.canLayAll0 (t.map rowD)) = true
    rw [ih, Bool.and_true]
    show (PyData.canLay0 (.str (gs r.1)) && (PyData.canLay0 (.int r.2) && true)) = true
    show (PyData.strOk (gs r.1) && (true && true)) = true
    rw [gs_ok]; rfl
theorem rowsD_depth (rs : List Bk.Rw) : (rowsD rs).depth ≤ 8 := by
  have : ∀ l : List Bk.Rw, PyData.depthAll (l.map rowD) ≤ 4 := by
    intro l
    induction l with
    | nil => simp [PyData.depthAll]
    | cons r t ih =>
      simp only [List.map_cons, PyData.depthAll, rowD, PyData.depth]
      omega
  have h := this rs
  simp only [rowsD, PyData.depth]
  omega
theorem eqv_rows : ∀ (a b : List Bk.Rw), PyData.eqv (rowsD a) (rowsD b) = decide (a = b) := by
  intro a b
  show PyData.eqvAll (a.map rowD) (b.map rowD) = decide (a = b)
  induction a generalizing b with
  | nil => cases b <;> simp [PyData.eqvAll]
  | cons r t ih =>
    cases b with
    | nil => simp [PyData.eqvAll]
    | cons q u =>
      simp only [List.map_cons, PyData.eqvAll, ih u]
      have : PyData.eqv (rowD r) (rowD q) = decide (r = q) := by
        obtain ⟨g, l⟩ := r
        obtain ⟨g', l'⟩ := q
        simp only [rowD, PyData.eqv, PyData.eqvAll, Bool.and_true]
        have e : (gs g == gs g') = decide (g = g') := by cases g <;> cases g' <;> decide +kernel
        rw [e]
        by_cases h1 : g = g' <;> by_cases h2 : l = l' <;> simp [h1, h2]
      rw [this]
      by_cases h1 : r = q <;> by_cases h2 : t = u <;> simp [h1, h2]
end L2

set_option Elab.async false
set_option linter.all false
set_option maxRecDepth 100000
/-! L3: the forms of comprehensions that one uses -/
namespace L2
open PySem PySem.Spec PyProof.Rows
/-- one turn more -/
def Nx (n i : Nat) (P : Prop) : Prop := ∃ m', m' < n - i ∧ m' = n - (i + 1) ∧ i + 1 ≤ n ∧ P
theorem nx {n i : Nat} {P : Prop} (h : i < n) (p : P) : Nx n i P := ⟨n - (i + 1), by omega, rfl, h, p⟩
theorem comp_list {K : PySem.W.Frag} {a p : Addr} {xs : List V} {g : TG} {tt : TT} {te : TE} {σc : St} {H0 : Hp} {R : Hp → Prop} (Pv : Nat → List V → Hp → Prop) (h0 : Pv 0 [] H0) (hl : ∀ i ys H, Pv i ys H → SqL K H a xs ∧ H p = some (.lst ys))
    (hs : ∀ i x ys H, i < xs.length → xs[i]? = some x → Pv i ys H → g x σc H fun σ2 H2 => Wk σc σ2 ∧ tt σ2 H2 fun b H3 =>
      if b = true then te σ2 H3 fun y H4 => H4 p = some (.lst ys) ∧ ys.length < sizeLine ∧ Nx xs.length i (Pv (i + 1) (ys ++ [y]) (upd H4 p (.lst (ys ++ [y])))) else Nx xs.length i (Pv (i + 1) ys H3))
    (hd : ∀ ys H, Pv xs.length ys H → R H) : ∃ W : Nat → Nat → List V → Hp → Prop, (∃ m, W 0 m [] H0) ∧ cTurn (Itl K a) g tt te σc p W R := by
  refine ⟨fun i m ys H => m = xs.length - i ∧ i ≤ xs.length ∧ Pv i ys H, ⟨xs.length, by simp, Nat.zero_le _, h0⟩, ?_⟩
  rintro i m ys H ⟨rfl, hi, q⟩
  obtain ⟨q1, q2⟩ := hl i ys H q
  refine ⟨q2, ?_⟩
  by_cases hlt : i < xs.length
  · refine .inr ⟨⟨xs, xs[i], q1, by simp [hlt]⟩, fun x H' y => ?_⟩
    obtain ⟨e, y⟩ := y
    subst e
    exact hs i x ys H' hlt (y xs q1) q
  · have e : i = xs.length := by omega
    subst e
    exact .inl ⟨⟨xs, q1, Nat.le_refl _⟩, hd ys H q⟩
theorem comp_range {lo : Int} {n : Nat} {p : Addr} {g : TG} {tt : TT} {te : TE} {σc : St} {H0 : Hp} {R : Hp → Prop} (Pv : Nat → List V → Hp → Prop) (h0 : Pv 0 [] H0) (hl : ∀ i ys H, Pv i ys H → H p = some (.lst ys))
    (hs : ∀ i ys H, i < n → Pv i ys H → g (.int (lo + i)) σc H fun σ2 H2 => Wk σc σ2 ∧ tt σ2 H2 fun b H3 =>
      if b = true then te σ2 H3 fun y H4 => H4 p = some (.lst ys) ∧ ys.length < sizeLine ∧ Nx n i (Pv (i + 1) (ys ++ [y]) (upd H4 p (.lst (ys ++ [y])))) else Nx n i (Pv (i + 1) ys H3))
    (hd : ∀ ys H, Pv n ys H → R H) : ∃ W : Nat → Nat → List V → Hp → Prop, (∃ m, W 0 m [] H0) ∧ cTurn (Itr lo n) g tt te σc p W R := by
  refine ⟨fun i m ys H => m = n - i ∧ i ≤ n ∧ Pv i ys H, ⟨n, by simp, Nat.zero_le _, h0⟩, ?_⟩
  rintro i m ys H ⟨rfl, hi, q⟩
  refine ⟨hl i ys H q, ?_⟩
  by_cases hlt : i < n
  · refine .inr ⟨hlt, fun x H' y => ?_⟩
    obtain ⟨e, y⟩ := y
    subst e y
    exact hs i ys H' hlt q
  · have e : i = n := by omega
    subst e
    exact .inl ⟨Nat.le_refl _, hd ys H q⟩
theorem yes {σ : St} {H : Hp} {A B : Hp → Prop} (h : A H) : tYes σ H fun b H3 => if b = true then A H3 else B H3 := by
  show if true = true then A H else B H
  exact iteT (A := A H) (B := B H) h
/-! rules whose reading names the text's part itself, for a block -/
section
variable {X : Cx} {K : PySem.W.Frag}
theorem ix_tupK (h : X.K = K) : IxR X (rIxT K) := h ▸ ix_tup
theorem pg_tupK {es : List Expr} {k : Nat} {pos : Pos} {t : TGs} {n : Nat} (h : X.K = K) (hc : X.calm = true) (g : PGs X es t) (hn : (assignEach es X.env).length = n := by rfl) (hst : (assignEach es X.env).findIdx? (·.1) = none := by rfl) : PG X (.Tuple es k pos) (gTup K n t) := h ▸ pg_tup hc g hn hst
end
end L2

set_option Elab.async false
set_option linter.all false
set_option maxRecDepth 100000
set_option maxHeartbeats 4000000
/-! L4: refusals with an __init__ of their own, upon the heap -/
namespace L2
open PySem PySem.Spec PyProof.Rows

abbrev vErr : List Value := [.type "ValueError", .type "Exception", .type "BaseException", .type "object"]
abbrev tupRaw (us : List Value) : Obj := { cls := .type "tuple", data := .seq us.toArray }
abbrev excRaw (C t : Addr) (od : Option Addr) : Obj := { cls := .ref C, dict := od, data := .fields #[.ref t, .none, .none, .none, .bool false, .none] }
/-- what of the text a refusal with an __init__ of its own must have -/
structure ExcI (K : PySem.W.Frag) (C aB f : Addr) : Prop where
  obj : ∃ nm q N bs sn sub ab col dd k0 k1 k2 k3 k5, K.lookup C = some (excClassObj nm q C N bs (.ref aB :: vErr) true sn sub ab col dd k0 k1 k2 k3 k5 "ValueError.__new__")
  base : PySem.W.excIn K aB vErr "ValueError.__new__" = true
  init : PySem.W.findIn K (.ref C) "__init__" = some (some (.ref f))
  fn : PySem.W.typeIn K (.ref f) = some (.type "function")
  sa : PySem.W.findIn K (.ref C) "__setattr__" = some (some (.builtin "object.__setattr__"))
  call : PySem.W.specialIn K (.ref C) "__call__" = some (some (.builtin "type.__call__"))
  inst : PySem.W.instIn K (.ref C) (.type "type") = some true
  kp : PySem.W.keepIn K (.ref C) = true
  exc : ExcC K C

section
variable {prog : Program} {w : World} {A : Around} {E : Value → Shared → Prop} {s : Shared} {K : PySem.W.Frag} {C aB f e t : Addr} {od : Option Addr}
theorem ExcI.tail {h : Heap} (c : ExcI K C aB f) (X : K.In h) : OwnTail h vErr (.ref aB :: vErr) := by
  obtain ⟨bm, N, nm, qn, bs, hd, sn, sub, ab, col, dd, k0, k1, k2, k3, k5, hB, hN, hni, _⟩ := exc_obj X c.base
  exact .own hB hN hni .base

/-- C(..): the exception's thing at the second new place; then its __init__ -/
theorem exc_make {R : Result → Shared → Prop} {us : List Value} (X : K.In s.heap) (c : ExcI K C aB f) (hz : us.length ≤ sizeLine)
    (h : codeAny (model prog w) (A.under (.builtin "type.__call__" ⟨.ref C :: us, []⟩)) (.call (.ref f) ⟨.ref (s.heap.objs.size + 1) :: us, []⟩) (PySem.W.InitBack (s.heap.objs.size + 1) R)
      { s with heap := (s.heap.push (tupRaw us)).push (excRaw C s.heap.objs.size none) }) :
    codeAny (model prog w) A (.call (.ref C) ⟨us, []⟩) R s := by
  obtain ⟨hp, g, d, tk, os⟩ := s
  dsimp only at X h
  obtain ⟨nm, q, N, bs, sn, sub, ab, col, dd, k0, k1, k2, k3, k5, hK⟩ := c.obj
  have hC := X _ _ hK
  have T := c.tail X
  have F := PySem.F.excBase_ValueError
  have LC := PySem.W.looks_specialIn (M := model prog w) X c.call
  have LT := PySem.W.looks_instIn (M := model prog w) X c.inst
  refine codeAny_of_tree ?_
  show wpAny (model prog w) _ (callAny (.ref C) ⟨us, []⟩) _ _ ⟨hp, g, d, tk, os⟩
  refine PySem.W.nd_load (o := excClassObj nm q C N bs (.ref aB :: vErr) true sn sub ab col dd k0 k1 k2 k3 k5 "ValueError.__new__") hC ?_
  show wpAny (model prog w) _ (callAny.viaDunder (.ref C) ⟨us, []⟩) _ _ ⟨hp, g, d, tk, os⟩
  unfold callAny.viaDunder
  refine wpAny_bind (LC.at ?_)
  dsimp only
  rw [tc_bind]
  refine wpAny_bind (wpAny_pure (wpAny_bind (wpAny_pure (wpAny_pure (a := Fin.again (.call (.builtin "type.__call__") ⟨.ref C :: us, []⟩)) ⟨rfl, ?_⟩))))
  refine codeAny_call_builtin_at (Code.quiet_builtin _ (by decide +kernel)) entry_typeCall (PySem.W.check_slot tc_kind tc_split LT (PySem.W.tc_args _ _ _) ?_)
  -- type.__call__
  repeat (first | with_reducible refine wpAny_madeBy_exc hC ?_ | with_reducible refine wpAny_loadPart_at hC ?_ | wp_step)
  refine codeAny_call_builtin_code (Code.quiet_builtin _ F.quiet) (wpAny_check_new_subT F T hC (codeAny_exc_new_subT F T hC ?_ hz))
  show wpAny (model prog w) _ _ _ _ _
  have kk : ∀ b o, hp.get? b = some o → ((hp.push (tupRaw us)).push (excRaw C hp.objs.size none)).get? b = some o := fun b o z => Heap.get?_push_of_some _ (Heap.get?_push_of_some _ z)
  have hC1 := kk _ _ hC
  have hx : ((hp.push (tupRaw us)).push (excRaw C hp.objs.size none)).get? (hp.objs.size + 1) = some (excRaw C hp.objs.size none) := by
    have z := Heap.get?_push_size (hp.push (tupRaw us)) (o := excRaw C hp.objs.size none) rfl
    rwa [Heap.size_push] at z
  have hcC : (Value.ref C :: .ref aB :: vErr).contains (.ref C) = true := by simp
  have L1 := (PySem.W.looks_findIn (M := model prog w) X c.init).keeps kk
  have L2 := (PySem.W.bind_fn (M := model prog w) X (.ref (hp.objs.size + 1)) c.fn).keeps kk
  unfold isInstance
  repeat (first | (with_reducible refine wpAny_isSubtype_exc hC1 ?_; rw [hcC]) | with_reducible refine wpAny_loadPart_at hx ?_ | wp_step)
  show wpAny (model prog w) _ (typeLookup (.ref C) "__init__") _ _ _
  refine L1.at ?_
  refine wpAny_holding (wpAny_bind (L2.at (wpAny_bind (wpAny_call (codeAny_mono h fun r s' z => ?_)))))
  rcases r with e | (v | _ | _ | _) <;> first | exact z | exact z.elim | skip
  obtain ⟨rfl, z⟩ := z
  exact wpAny_pure (wpAny_pure z)

/-- ValueError.__init__(e, ..): the args alone are others then -/
theorem exc_init {R : Result → Shared → Prop} {us : List Value} (X : K.In s.heap) (c : ExcI K C aB f) (he : s.heap.get? e = some (excRaw C t od)) (hz : us.length ≤ sizeLine)
    (h : ∀ (h' : Heap) (t' : Addr), h'.get? e = some (excRaw C t' od) → (∀ b o, b ≠ e → s.heap.get? b = some o → h'.get? b = some o) → R (.ok (.ret .none)) { s with heap := h' }) :
    codeAny (model prog w) A (.call (.builtin "ValueError.__init__") ⟨.ref e :: us, []⟩) R s := by
  obtain ⟨hp, g, d, tk, os⟩ := s
  dsimp only at X h he
  obtain ⟨nm, q, N, bs, sn, sub, ab, col, dd, k0, k1, k2, k3, k5, hK⟩ := c.obj
  have hC := X _ _ hK
  have T := c.tail X
  have F := PySem.F.excBase_ValueError
  refine codeAny_call_builtin F.init.plain F.initEntry (wpAny_check_init_subT F T hC he rfl ?_)
  wp_walk
  have lt : e < hp.objs.size := Heap.lt_size he
  refine h _ hp.objs.size ?_ (fun b o nb z => ?_)
  · rw [Heap.get?_update_self _ (Heap.get?_push_of_some _ he) rfl]
    rfl
  · rw [Heap.get?_update_other _ _ (Ne.symm nb)]
    exact Heap.get?_push_of_some _ z
end
end L2

set_option Elab.async false
set_option linter.all false
set_option maxRecDepth 100000
set_option maxHeartbeats 4000000
/-! L4: a field of a refusal stored and read, upon the heap; a refusal raised -/
namespace L2
open PySem PySem.Spec PyProof.Rows
open Builtin Builtin.ObjectAttr

section
variable {prog : Program} {w : World} {A : Around} {E : Value → Shared → Prop} {s : Shared} {K : PySem.W.Frag} {C aB f e t : Addr} {od : Option Addr} {name : Str} {v : Value}
theorem refuse_exc (self : Value) (C aB : Addr) : refuseLoop self "__setattr__" (.ref C :: .ref aB :: vErr) = pure () := by
  rw [refuseLoop_ref, refuseLoop_ref]
  exact PySem.F.store_ValueError.passes self

/-- e.name = v, e without a dict so far -/
theorem exc_set {Q : Unit → Shared → Prop} (X : K.In s.heap) (c : ExcI K C aB f) (hn : NoAttr K C name) (he : s.heap.get? e = some (excRaw C t none))
    (h : ∀ (h' : Heap) (tk : Nat), h'.get? e = some (excRaw C t (some s.heap.objs.size)) → h'.Ns1 s.heap.objs.size (fun y => if y = name then some v else none) →
      (∀ b o, b ≠ e → s.heap.get? b = some o → h'.get? b = some o) → Q () { s with heap := h', toks := tk }) : wpAny (model prog w) A (setAttr (.ref e) name v) Q E s := by
  obtain ⟨nm, q, N, bs, sn, sub, ab, col, dd, k0, k1, k2, k3, k5, hK⟩ := c.obj
  have J : PySem.W.InstAt s.heap e (excRaw C t none) C none := ⟨he, rfl, rfl, trivial⟩
  refine PySem.W.set_plain X J c.sa ?_
  obtain ⟨hp, g, d, tk, os⟩ := s
  dsimp only at X J he h ⊢
  have SF := PySem.F.store_object
  have hcls : PySem.W.clsIn K C = some ⟨nm, bs, .ref C :: .ref aB :: vErr, N, q, true, sn, sub, ab, col, false⟩ := by unfold PySem.W.clsIn; rw [hK]
  have LI : PySem.W.Looks (model prog w) hp (isInstance (.ref e) (.type "object")) true := J.type.andThen (PySem.W.looks_mroIn X c.exc.ob)
  have LM : PySem.W.Looks (model prog w) hp (mroOf (.ref C)) (.ref C :: .ref aB :: vErr) := (PySem.W.looks_clsIn X hcls).andThen .now
  have LF := PySem.W.looks_findIn (M := model prog w) X hn
  have LD := PySem.W.looks_clsIn (M := model prog w) X hcls
  refine codeAny_call_builtin SF.slot.plain SF.entry (@PySem.W.check_slot (model prog w) _ _ ⟨hp, g, d, tk + 1, os⟩ "object.__setattr__" "object" "__setattr__" (.ref e) [.str name tk, v] [] _ SF.kind SF.split LI (SF.args _ _ _) ?_)
  rw [PySem.W.osa_eq, refuse_eq]
  refine wpAny_bind (wpAny_bind (J.type.at (wpAny_bind (LM.at ?_))))
  rw [refuse_exc]
  refine wpAny_pure (wpAny_bind (J.type.at (wpAny_bind (LF.at (wpAny_bind (wpAny_pure ?_))))))
  show wpAny (model prog w) _ (storeInOwnDict (.ref e) (.ref C) (.str name tk) name v false) _ _ ⟨hp, g, d, tk + 1, os⟩
  refine wpAny_bind (wpAny_pure (wpAny_bind (wpAny_bind (wpAny_loadPart_at he (wpAny_bind (LD.at ?_))))))
  have hx1 : (hp.push { cls := .type "dict", data := .dict #[] }).get? e = some (excRaw C t none) := Heap.get?_push_of_some _ he
  have ne : e ≠ hp.objs.size := Nat.ne_of_lt (Heap.lt_size he)
  show wpAny (model prog w) _ (alloc { cls := .type "dict", data := .dict #[] } >>= _) _ _ _
  refine wpAny_bind (wpAny_alloc (wpAny_bind (wpAny_update hx1 (wpAny_pure ?_))))
  generalize hU : (hp.push { cls := .type "dict", data := .dict #[] }).update e (fun o => { cls := o.cls, dict := some hp.objs.size, data := o.data, slots := o.slots }) = hu
  have gd : hu.get? hp.objs.size = some { cls := .type "dict", data := .dict #[] } := by
    rw [← hU, Heap.get?_update_other _ _ ne]
    exact Heap.get?_push_size hp rfl
  have ge : hu.get? e = some (excRaw C t (some hp.objs.size)) := by
    rw [← hU, Heap.get?_update_self _ hx1 rfl]
  have gk : ∀ b o, b ≠ e → hp.get? b = some o → hu.get? b = some o := fun b o nb z => by
    rw [← hU, Heap.get?_update_other _ _ (Ne.symm nb)]
    exact Heap.get?_push_of_some _ z
  have hns : hu.Ns hp.objs.size (fun _ => none) := ⟨_, #[], _, gd, rfl, (fun y hy => absurd hy (by simp)), fun _ => rfl⟩
  show wpAny (model prog w) _ (storeInDict hp.objs.size (.str name tk) name v) _ _ ⟨hu, g, d, tk + 1, os⟩
  unfold storeInDict newKeyGuard
  refine wpAny_bind (wpAny_pure (wpAny_bind (wpAny_nsSet1 (s := ⟨hu, g, d, tk + 1, os⟩) (Heap.Ns1.of_empty hns) fun h2 hn2 hs2 => ?_)))
  obtain ⟨oD, esD, epD, hoD, hdD, hcD⟩ := hn2.count (Within.cons name v Within.nil)
  refine wpAny_bind (wpAny_lookBehind hoD (by rw [hdD]; exact pastItsLine_dict (Nat.le_trans hcD (by rw [List.length_cons, List.length_nil, sizeLine_eq]; omega))) (wpAny_pure ?_))
  exact h h2 _ ((hs2.2 e ne).trans ge) hn2 (fun b o nb z => (hs2.2 b (Nat.ne_of_lt (Heap.lt_size z))).trans (gk b o nb z))

/-- a refusal, made on the spot, is raised -/
theorem exc_raise {env : Env} {x : Sem Value} {Q : Flow → Shared → Prop} (hh : A.handled = none) (c : ExcI K C aB f)
    (h : wpAny (model prog w) A x (fun v s1 => ∃ e t od, v = .ref e ∧ K.In s1.heap ∧ s1.heap.get? e = some (excRaw C t od) ∧ E (.ref e) s1) E s) : wpAny (model prog w) A (raiseStmt env (some x) none) Q E s := by
  obtain ⟨nm, q, N, bs, sn, sub, ab, col, dd, k0, k1, k2, k3, k5, hK⟩ := c.obj
  have hcB : (Value.ref C :: .ref aB :: vErr).contains (.type "BaseException") = true := by rw [List.contains_cons, List.contains_cons]; rfl
  unfold raiseStmt
  refine wpAny_bind (wpAny_mono h (fun v s1 h1 => ?_) fun _ _ z => z)
  obtain ⟨e, t, od, rfl, X, he, hE⟩ := h1
  have hC := X _ _ hK
  obtain ⟨hp, g, d, tk, os⟩ := s1
  dsimp only at he hC
  repeat (first | (with_reducible refine wpAny_isSubtype_exc hC ?_; rw [hcB]) | with_reducible refine wpAny_loadPart_at he ?_ | with_reducible refine wpAny_loadPart_at hC ?_ | wp_step)
  exact wpAny_raiseNew_none hh hE
end
end L2

set_option Elab.async false
set_option linter.all false
set_option maxRecDepth 100000
set_option maxHeartbeats 4000000
/-! L4: rules for refusals with an __init__ of their own -/
namespace L2
open PySem PySem.Spec PyProof.Rows

/-- a new refusal, not flown yet -/
abbrev ExcN (e C : Addr) (od : Option Addr) : HO := .ext fun h => ∃ t, h.get? e = some (excRaw C t od)
def rem (H : Hp) (a : Addr) : Hp := fun b => if b = a then none else H b
theorem rem_same {H : Hp} {a : Addr} : rem H a a = none := by unfold rem; rw [if_pos rfl]
theorem rem_ne {H : Hp} {a b : Addr} (h : b ≠ a) : rem H a b = H b := by unfold rem; rw [if_neg h]
theorem upd_id {H : Hp} {a : Addr} {o : HO} (h : H a = some o) : upd H a o = H := by
  funext b
  by_cases e : b = a
  · subst e; rw [upd_same, h]
  · rw [upd_ne e]

section
variable {X : Cx} {pins : List (Addr × Obj)} {σ : St} {H : Hp} {s : Shared} {a C : Addr} {φ : Heap → Prop}
theorem Inv.untrack (I : Inv X pins σ H s) (e : H a = some (.ext φ)) : Inv X pins σ (L2.rem H a) s := by
  have ne : ∀ b o, H b = some o → (∀ ψ, o ≠ .ext ψ) → b ≠ a := fun b o q n z => by
    rw [z, e] at q; cases q; exact n _ rfl
  have no : ∀ b, H b = none → L2.rem H a b = none := fun b q => by
    by_cases z : b = a
    · rw [z]; exact rem_same
    · rw [rem_ne z]; exact q
  refine ⟨I.ok, I.os, I.bare, ⟨I.base.keep, I.base.slot, fun b o q n hx => no b (I.base.free b o q n hx), I.base.there, fun b xs q => ?_, fun b o u q => ?_, fun b ps q => ?_⟩, I.loc, I.cell, no _ I.free, fun x c q => no c (I.freeC x c q), fun p hp => ?_, fun b o q => ?_, I.len⟩
  · have z := I.base.tups b xs q
    rw [rem_ne (ne b _ z (fun _ y => nomatch y))]; exact z
  · have z := I.base.frzs b o u q
    rw [rem_ne (ne b _ z (fun _ y => nomatch y))]; exact z
  · obtain ⟨m, z⟩ := I.base.tbls b ps q
    exact ⟨m, by rw [rem_ne (ne b _ z (fun _ y => nomatch y))]; exact z⟩
  · obtain ⟨p1, p2, p3⟩ := I.pin p hp
    exact ⟨p1, no _ p2, p3⟩
  · have nb : b ≠ a := fun z => by rw [z, rem_same] at q; cases q
    rw [rem_ne nb] at q
    refine (I.hok b o q).stay (fun _ _ _ z => z) (fun c z => ?_) fun c xs z => ?_
    · rw [rem_ne (ne c _ z (fun _ y => nomatch y))]; exact z
    · rw [rem_ne (ne c _ z (fun _ y => nomatch y))]; exact z
/-- a new refusal is tracked -/
theorem Inv.exc (I : Inv X pins σ H s) (us : List Value) : Inv X pins σ (upd H (s.heap.objs.size + 1) (ExcN (s.heap.objs.size + 1) C none)) { s with heap := (s.heap.push (tupRaw us)).push (excRaw C s.heap.objs.size none) } := by
  have e2 : ((s.heap.push (tupRaw us)).push (excRaw C s.heap.objs.size none)).get? (s.heap.objs.size + 1) = some (excRaw C s.heap.objs.size none) := by
    have z := Heap.get?_push_size (s.heap.push (tupRaw us)) (o := excRaw C s.heap.objs.size none) rfl
    rwa [Heap.size_push] at z
  exact I.laid (a := s.heap.objs.size + 1) (t' := s.toks) (fun b u q => Heap.get?_push_of_some _ (Heap.get?_push_of_some _ q)) (Nat.le_succ _) ⟨⟨_, e2⟩, ⟨_, e2⟩, fun h1 h2 ⟨t, z⟩ kk => ⟨t, kk _ z⟩⟩
end

/-! ### f"..{n}" -/
def tFmt (x : Str) (te : TE) : TE := fun σ H Q => te σ H fun v H1 => ∃ i : Int, v = .int i ∧ i.natAbs.log2 < 1920 ∧ (Str.empty ++ x ++ (toString i : Str)).length ≤ sizeLine ∧ Q (.str (Str.empty ++ x ++ (toString i : Str))) H1
section
variable {X : Cx} {x : Str} {j : Nat} {cp vp jp : Pos} {te : TE} {val : Expr}
theorem pe_fmt {j} (hv : PE X val te) (hx : (Str.empty ++ x).length ≤ sizeLine := by decide) : PE X (.JoinedStr [.Constant (.str x) j cp, .FormattedValue val (-1) none vp] jp) (tFmt x te) := by
  intro pins s σ H Q I h
  refine JoinedStr_many (joinParts_cons (Calls.Constant_str ⟨hx, joinParts_cons (FormattedValue_plain ?_)⟩))
  refine thn (hv pins _ σ H _ (I.tok _) h) fun u s1 ⟨v, H1, I1, r, i, e, hlog, hlen, q⟩ => ?_
  subst e
  obtain ⟨t, rfl⟩ := (show ∃ t, u = Value.int i t from r)
  refine formatField_int_small hlog ⟨hlen, joinParts_nil ?_ hlen⟩
  exact ⟨.str _, H1, I1.tok _, ⟨_, rfl⟩, q⟩
end

/-! ### B.__init__(self, ..) -/
structure BaseC (K : PySem.W.Frag) (aB : Addr) : Prop where
  ga : PySem.W.specialIn K (.ref aB) "__getattribute__" = some (some (.builtin "type.__getattribute__"))
  rd : PySem.W.readsIn K aB (.type "type") = true
  fc : PySem.W.findCls K (.ref aB) (.type "type") "__init__" = some (.val (.builtin "ValueError.__init__"))
def tBInit (K : PySem.W.Frag) (t : TA) : TE := fun σ H Q => t σ H fun vs H1 => ∃ e v C od f aB, vs = [.ref e, v] ∧ H1 e = some (ExcN e C od) ∧ ExcI K C aB f ∧ Q .non H1
section
variable {X : Cx} {x : Str} {np apos pos : Pos} {aB : Addr} {e : Expr} {es : List Expr} {t : TA}
theorem pe_binit {pl : Sem Bool} (b : BaseC X.K aB) (hg : Gl X x) (hm : X.mg x = some (.ref aB)) (ha : PA X (e :: es) t) (hdb : (x == ("__debug__" : Str)) = false := by decide)
    (hst : starEach (e :: es) X.env = (false, eval e X.env) :: starEach es X.env := by rfl) (hpl : (backTo pos (starEach es X.env)).any (·.1) = false := by rfl)
    (ht : eval (.Call (.Attribute (.Name x np) "__init__" apos) (e :: es) [] pos) X.env = (do
      let ov ← eval (.Name x np) X.env
      standAt apos.atName
      let (f, first) ← holding [ov] (getMethod ov "__init__" pl)
      callWith pos f first (backTo pos (starEach (e :: es) X.env)) (backToKw pos (keywordEach [] X.env))) := by rfl) :
    PE X (.Call (.Attribute (.Name x np) "__init__" apos) (e :: es) [] pos) (tBInit X.K t) := by
  intro pins s σ H Q I h
  refine PySem.W.methodCall_KW (pl := pl) (ld_glob I hg hm ?_ hdb) ht
  refine PySem.W.method_cls I.kIn b.ga (PySem.W.cls_value I.kIn b.rd b.fc rfl ?_)
  have hA := ha pos pins _ σ H _ (I.tok (s.toks + 1)) h
  rw [hst] at hA
  show wpAny _ _ (callWith pos (.builtin "ValueError.__init__") [] (backTo pos (starEach (e :: es) X.env)) []) _ _ _
  rw [hst]
  refine Calls.callWith_builtin (by show (false || (backTo pos (starEach es X.env)).any (·.1)) = false; rw [hpl]; rfl) (Calls.evalArgs_plain ?_)
  refine thn hA fun us s2 ⟨vs, H2, I2, r2, e', v, C, od, f, aB', hv, he, c, q⟩ => ?_
  subst hv
  obtain ⟨u1, u2, rfl, ru, rv⟩ := vals2 r2
  obtain rfl : u1 = Value.ref e' := ru
  obtain ⟨⟨t0, h1⟩, _⟩ := I2.hok _ _ he
  refine wpAny_call (exc_init I2.kIn c h1 (by show 1 ≤ sizeLine; decide) fun h' t' g1 g2 => ?_)
  have I3 := I2.write (x := e') (e := e') (o := ExcN e' C od) (h' := h') (t' := s2.toks) (by rw [he]; exact True.intro) (.inl rfl) (fun b u nb z => g2 b u nb z) ⟨_, g1⟩ ⟨⟨_, g1⟩, ⟨_, g1⟩, fun g3 g4 ⟨t, z⟩ kk => ⟨t, kk _ z⟩⟩
  rw [upd_id he] at I3
  exact ⟨.non, H2, I3, rfl, q⟩
end

/-! ### e.name = value, in an __init__ -/
def sExc (K : PySem.W.Frag) (ta tv : TE) (nm : Str) : TS := fun D σ H => tv σ H fun y H1 => ta σ H1 fun x H2 => ∃ e C f aB, x = .ref e ∧ H2 e = some (ExcN e C none) ∧ ExcI K C aB f ∧ NoAttr K C nm ∧
  ∀ dx, H2 dx = none → D.nx σ (upd (upd H2 dx (.xd [(nm, y)])) e (ExcN e C (some dx)))
section
variable {X : Cx} {o value : Expr} {nm : Str} {pos pos' : Pos} {ta tv : TE}
theorem ps_exset (ha : PE X o ta) (hv : PE X value tv) (hs : swapsWith value (some (.Attribute o nm pos')) pos.line X.env = pure false := by rfl) : PS X (.Assign [.Attribute o nm pos'] value pos) (sExc X.K ta tv nm) := by
  intro pins s σ H D I h
  refine plainObj_wpAny_Assign_Attribute (thn (hv pins s σ H _ I h) fun u s1 ⟨y, H1, I1, ry, q⟩ => thn (ha pins s1 σ H1 _ I1 q) fun ov s2 ⟨x, H2, I2, rx, e, C, f, aB, ex, he, c, n, q2⟩ => ?_) hs
  subst ex
  obtain rfl : ov = Value.ref e := rx
  obtain ⟨⟨t0, h1⟩, _⟩ := I2.hok _ _ he
  refine exc_set I2.kIn c n h1 fun h' tk g1 g2 g3 => ?_
  have nd : H2 s2.heap.objs.size = none := I2.hok.fresh (Nat.le_refl _)
  have ne : s2.heap.objs.size ≠ e := fun z => by rw [z, he] at nd; cases nd
  -- the refusal's thing is written, and its dict is new
  have I3 := I2.write (x := e) (e := e) (o := ExcN e C (some s2.heap.objs.size)) (h' := h') (t' := tk) (by rw [he]; exact True.intro) (.inl rfl) (fun b u nb z => g3 b u nb z) ⟨_, g1⟩ ⟨⟨_, g1⟩, ⟨_, g1⟩, fun g4 g5 ⟨t, z⟩ kk => ⟨t, kk _ z⟩⟩
  have nd3 : upd H2 e (ExcN e C (some s2.heap.objs.size)) s2.heap.objs.size = none := by rw [upd_ne ne]; exact nd
  have new : ObjOk X.prog X.w (upd (upd H2 e (ExcN e C (some s2.heap.objs.size))) s2.heap.objs.size (.xd [(nm, y)])) h' s2.heap.objs.size (.xd [(nm, y)]) := by
    refine ⟨_, g2, fun g => ?_⟩
    show RelO (([(nm, y)] : List (Str × V)).lookup g) (if g = nm then some u else none)
    by_cases z : g = nm
    · subst z; rw [if_pos rfl]; simp [RelO]; exact ry
    · rw [if_neg z]
      have : (g == nm) = false := by simpa using z
      simp [List.lookup, this, RelO]
  have fin : Inv X pins σ (upd (upd H2 e (ExcN e C (some s2.heap.objs.size))) s2.heap.objs.size (.xd [(nm, y)])) { s2 with heap := h', toks := tk } := by
    have lt : X.s₀.heap.get? s2.heap.objs.size = none := Heap.get?_none_of_le I2.sz
    have nL : s2.heap.objs.size ≠ X.env.locals := Nat.ne_of_gt I2.lt
    refine ⟨I3.ok, I3.os, I3.bare, I3.base.track nd3 lt, I3.loc, I3.cell, by rw [upd_ne (Ne.symm nL)]; exact I3.free, fun z c q => ?_, fun p hp => ?_, I3.hok.more (fun _ _ _ z => z) nd3 new, I3.len⟩
    · obtain ⟨w', o', ho, _⟩ := I2.cell z c q
      rw [upd_ne (Nat.ne_of_lt (Heap.lt_size ho))]; exact I3.freeC z c q
    · obtain ⟨p1, p2, p3⟩ := I3.pin p hp
      obtain ⟨o1, _⟩ := I2.pin p hp
      refine ⟨p1, ?_, p3⟩
      rw [upd_ne (Nat.ne_of_lt (Heap.lt_size o1))]; exact p2
  have sw : upd (upd H2 e (ExcN e C (some s2.heap.objs.size))) s2.heap.objs.size (.xd [(nm, y)]) = upd (upd H2 s2.heap.objs.size (.xd [(nm, y)])) e (ExcN e C (some s2.heap.objs.size)) := by
    funext b
    by_cases z1 : b = e
    · subst z1; rw [upd_ne (Ne.symm ne), upd_same, upd_same]
    · by_cases z2 : b = s2.heap.objs.size
      · subst z2; rw [upd_same, upd_ne z1, upd_same]
      · rw [upd_ne z2, upd_ne z1, upd_ne z1, upd_ne z2]
  rw [sw] at fin
  exact ⟨σ, _, fin, q2 _ nd⟩
end

/-! ### raise C(..) -/
def tRaiseI (E : XK) (C : Addr) (sp : Sp) (t : TA) : TS := fun _ σ H => t σ H fun vs H1 => vs.length ≤ sizeLine ∧ ∀ e, H1 e = none → sp (.ref e :: vs) (upd H1 e (ExcN e C none)) (fun v H2 => v = .non ∧ ∃ od, H2 e = some (ExcN e C od) ∧ E (.ref C) od (rem H2 e)) E0
section
variable {X : Cx} {E : XK} {C aB f : Addr} {fd : FuncData} {ps : List Str} {sp : Sp} {k : Nat} {x : Str} {np cpos pos : Pos} {e : Expr} {es : List Expr} {t : TA}
theorem ps_raiseI (R : Raises X E) (hc : X.calm = true) (c : ExcI X.K C aB f) (F : FnOk X.prog X.w X.K X.mg X.base CX0 k f fd ps sp) (hr : Room (k + 1) X.A) (hb : Binds X.K fd ps []) (hg : Gl X x) (hm : X.mg x = some (.ref C)) (ha : PA X (e :: es) t)
    (hdb : (x == ("__debug__" : Str)) = false := by decide) (he : starEach (e :: es) X.env = (false, eval e X.env) :: starEach es X.env := by rfl) (hpl : (backTo cpos (starEach es X.env)).any (·.1) = false := by rfl) :
    PS X (.Raise (some (.Call (.Name x np) (e :: es) [] cpos)) none pos) (tRaiseI E C sp t) := by
  intro pins s σ H D I h
  rw [arm_exec_Raise]
  refine wpAny_bind (wpAny_standAt (exc_raise (K := X.K) (C := C) (aB := aB) (f := f) (I.ok.hd hc) c (wpAny_bind (wpAny_mono (Q := fun v s1 => ∃ e t od, v = .ref e ∧ X.K.In s1.heap ∧ s1.heap.get? e = some (excRaw C t od) ∧ X.xe (.ref e) s1) ?_ (fun v s3 h3 => wpAny_bind (wpAny_standAt (wpAny_pure h3))) fun _ _ z => z))))
  refine wpAny_Call_Name_kw (ld_glob I hg hm ?_ hdb)
  refine PySem.W.callWith_K (h₀ := X.base) I.ok.mod.kin c.kp (thn (ha cpos pins s σ H _ I h) fun us s1 ⟨vs, H1, I1, r, hz, q⟩ => ⟨I1.kIn, ?_⟩) he hpl
  have hq := q (s1.heap.objs.size + 1) (I1.hok.fresh (Nat.le_succ _))
  have I2 := Inv.exc (C := C) I1 us
  have r2 : Vals (V.ref (s1.heap.objs.size + 1) :: vs) (Value.ref (s1.heap.objs.size + 1) :: us) := .cons rfl r
  have hl : (Value.ref (s1.heap.objs.size + 1) :: us ++ []).length = ps.length := by
    have e1 := r2.length
    rw [F.len _ _ _ _ hq] at e1
    rw [List.append_nil]
    exact e1.symm
  have hb2 := hb _ (Value.ref (s1.heap.objs.size + 1) :: us) I2.kIn hl
  rw [List.append_nil] at hb2
  refine wpAny_call (exc_make (us := us) I1.kIn c (by rw [← r.length]; exact hz) (codeAny_mono (F.run _ X.stack _ _ ⟨Value.ref (s1.heap.objs.size + 1) :: us, []⟩ (Value.ref (s1.heap.objs.size + 1) :: us) _ _ E0 (hr.make C us [])
    (I2.env0.make C us []) hb2 r2 hq) fun r s' hq' => ?_))
  cases r with
  | error e => exact hq'.elim
  | ok fl =>
    cases fl with
    | ret u =>
      obtain ⟨v, H', I3, rv, ev, od, he', qE⟩ := I2.after hq'
      subst ev
      obtain ⟨⟨t', h1⟩, _⟩ := I3.hok _ _ he'
      refine ⟨rv, _, t', od, rfl, I3.kIn, h1, ?_⟩
      exact R pins σ _ s' _ (.ref C) od (I3.untrack he') ⟨_, _, h1, rfl, rfl, rfl, .inl ⟨rfl, rfl⟩⟩ (Heap.get?_none_of_le (Nat.le_succ_of_le I1.sz)) rem_same qE
    | next => exact False.elim hq'
    | brk => exact False.elim hq'
    | cont => exact False.elim hq'
end

/-! ### e.name of a refusal that was caught -/
def tExcF (K : PySem.W.Frag) (ta : TE) (nm : Str) : TE := fun σ H Q => ta σ H fun x H1 => ∃ e C dx fs v, x = .ref e ∧ H1 e = some (ExcO e (.ref C) (some dx)) ∧ H1 dx = some (.xd fs) ∧ ExcC K C ∧ PySem.W.hasDictIn K C = true ∧ NoAttr K C nm ∧ fs.lookup nm = some v ∧ Q v H1
section
variable {X : Cx} {o : Expr} {nm : Str} {pos : Pos} {ta : TE}
theorem pe_excF (he : PE X o ta) (hb : attributeBase o nm X.env (eval o X.env) = eval o X.env := by rfl) : PE X (.Attribute o nm pos) (tExcF X.K ta nm) := by
  intro pins s σ H Q I h
  refine attr_of hb (thn (he pins s σ H _ I h) fun u s1 ⟨x, H1, I1, rx, e, C, dx, fs, v, ex, hE, hX, c, hd, n, l, q⟩ => ?_)
  subst ex
  obtain rfl : u = Value.ref e := rx
  obtain ⟨ox, od', J, hod⟩ := inst_of I1 hE (.inr ⟨dx, fs, rfl, hX⟩)
  obtain ⟨obj, rfl, hobj⟩ := hod dx fs rfl hX
  obtain ⟨mA, hns, hrel⟩ := (show ObjOk X.prog X.w H1 s1.heap dx (.xd fs) from I1.hok dx _ hX)
  obtain ⟨ob2, ho2, hl2⟩ := lookIn_ns hns
  rw [hobj] at ho2
  cases ho2
  have hv := hrel nm
  rw [l] at hv
  obtain ⟨uv, e1, rv⟩ := RelO.some_of hv
  have hf : PySem.W.findObj X.K C (some obj) nm = some (.value uv) := PySem.W.findObj_own hd n rfl (by rw [hl2, e1])
  unfold getAttr
  refine wpAny_bind (wpAny_mkText (exc_by (s := { s1 with toks := s1.toks + 1 }) I1.kIn J c fun A' => ?_))
  refine exc_own (s := { s1 with toks := s1.toks + 1 }) I1.kIn J hf ⟨uv, rfl, handed_of rv, ⟨v, H1, I1.tok _, rv, q⟩⟩
end
end L2

set_option Elab.async false
set_option linter.all false
set_option maxRecDepth 100000
set_option maxHeartbeats 4000000
/-! L4: {}; things of any plain kind; rows of any two things -/
namespace L2
open PySem PySem.Spec PyProof.Rows

section
variable {X : Cx} {pins : List (Addr × Obj)} {σ : St} {H : Hp} {s : Shared} {pos : Pos}
end

end L2

set_option Elab.async false
set_option linter.all false
set_option maxRecDepth 100000
/-! L4: f"..{text}.." -/
namespace L2
open PySem PySem.Spec PyProof.Rows
section
variable {X : Cx} {x y : Str} {cp vp dp jp : Pos} {te : TE} {val : Expr}
end
end L2

set_option Elab.async false
set_option linter.all false
set_option maxRecDepth 100000
/-! L4: is True, is not True -/
namespace L2
open PySem PySem.Spec PyProof.Rows
section
variable {X : Cx}
end
end L2

set_option Elab.async false
set_option linter.all false
set_option maxRecDepth 100000
/-! L6a: list(reversed(xs)) -/
namespace L2
open PySem PySem.Spec PyProof.Rows
section
variable {prog : Program} {w : World} {A : Around} {E : Value → Shared → Prop} {s : Shared}
end
section
variable {X : Cx} {x y : Str} {p p2 pos pos2 : Pos} {e : Expr} {ta : TA}
end
end L2

set_option linter.all false
/-! banks by turns: what is cut out of them, and what is left -/
namespace Bk
/-- by turns: no two neighbours of one ground -/
def Alt : List Rw → Prop
  | [] => True
  | [_] => True
  | a :: b :: t => a.1 ≠ b.1 ∧ Alt (b :: t)
theorem Alt.tail : ∀ {r : Rw} {t : List Rw}, Alt (r :: t) → Alt t
  | _, [], _ => True.intro
  | _, _ :: _, h => h.2
theorem alt_snoc : ∀ {rs : List Rw} {r : Rw}, Alt rs → (∀ b, rs.getLast? = some b → b.1 ≠ r.1) → Alt (rs ++ [r])
  | [], r, _, _ => True.intro
  | [a], r, _, h => ⟨h a rfl, True.intro⟩
  | a :: b :: t, r, h, q => ⟨h.1, alt_snoc (rs := b :: t) h.2 (fun c e => q c (by rw [← e]; simp [List.getLast?_cons_cons]))⟩
/-- rows put behind a bank, by turns, each with a long -/
theorem fold_alt : ∀ (t acc : List Rw), Alt t → (∀ r ∈ t, 0 < r.2) → (∀ a b, acc.getLast? = some a → t.head? = some b → a.1 ≠ b.1) → t.foldl put acc = acc ++ t
  | [], acc, _, _, _ => by simp
  | r :: t, acc, h, p, q => by
    have hr := p r List.mem_cons_self
    have e : put acc r = acc ++ [r] := by
      rcases snoc_cases acc with rfl | ⟨i, b, rfl⟩
      · rw [put_nil, if_pos hr]; rfl
      · rw [put_snoc, if_neg (q b r (by simp) rfl), if_pos hr]
    rw [List.foldl_cons, e, fold_alt t (acc ++ [r]) h.tail (fun x hx => p x (List.mem_cons_of_mem _ hx)) ?_]
    · simp
    · intro a b ha hb
      have ea : a = r := by simpa using ha.symm
      subst ea
      cases t with
      | nil => cases hb
      | cons c t' => cases hb; exact h.1
theorem tidy_alt {t : List Rw} (h : Alt t) (p : ∀ r ∈ t, 0 < r.2) : tidy t = t := by
  unfold tidy
  rw [fold_alt t [] h p (fun a b ha => by cases ha)]
  rfl
end Bk

set_option linter.all false
/-! windows of half the length: the mathematics of half places -/
namespace Bk

/-! steps of at most one do not pass over 0 -/
end Bk

set_option linter.all false
/-! half places, told; rows made longer -/
namespace Bk
theorem alt_set (l : Int) : ∀ (rs : List Rw) (k : Nat) (r : Rw), rs[k]? = some r → Alt rs → Alt (rs.set k (r.1, l))
  | [], k, r, h, _ => by simp at h
  | [q], 0, r, h, _ => True.intro
  | [q], k + 1, r, h, _ => by simp at h
  | q :: q2 :: t, 0, r, h, a => by
    have e : q = r := by simpa using h
    subst e
    exact ⟨a.1, a.2⟩
  | q :: q2 :: t, 1, r, h, a => by
    have e : q2 = r := by simpa using h
    subst e
    have ih := alt_set l (q2 :: t) 0 q2 rfl a.2
    exact ⟨a.1, ih⟩
  | q :: q2 :: t, k + 2, r, h, a => by
    have ih := alt_set l (q2 :: t) (k + 1) r (by simpa using h) a.2
    exact ⟨a.1, ih⟩
end Bk

set_option linter.all false
/-! a bank place by place -/
namespace Bk
end Bk

set_option Elab.async false
set_option linter.all false
set_option maxRecDepth 100000
/-! L5: pieces and shares on the heap -/
namespace L2
open PySem PySem.Spec PyProof.Rows
abbrev Pc : Type := Int × Int
def PcAt (H : Hp) (v : V) (p : Pc) : Prop := ∃ q, v = .ref q ∧ H q = some (.tup [.int p.1, .int p.2])
abbrev PcsAt (H : Hp) : List V → List Pc → Prop := Paired (PcAt H)
theorem PcAt.mono {H H' : Hp} {v : V} {r : Pc} (h : PcAt H v r) (t : Tps H H') : PcAt H' v r := let ⟨p, e, q⟩ := h; ⟨p, e, t p _ q⟩
theorem PcsAt.mono {H H' : Hp} {vs : List V} {rs : List Pc} (h : PcsAt H vs rs) (t : Tps H H') : PcsAt H' vs rs := Paired.mapP h fun _ _ q => q.mono t
theorem paired_get {α β : Type} {F : α → β → Prop} : ∀ {vs : List α} {rs : List β} {i : Nat} {v : α}, Paired F vs rs → vs[i]? = some v → ∃ r, rs[i]? = some r ∧ F v r
  | _, _, 0, _, .cons h _, e => by simp at e; subst e; exact ⟨_, by simp, h⟩
  | _, _, i + 1, _, .cons _ t, e => by
    obtain ⟨r, h1, h2⟩ := paired_get (i := i) t (by simpa using e)
    exact ⟨r, by simpa using h1, h2⟩
  | _, _, _, _, .nil, e => by simp at e
/-- a share: a list of pieces -/
def ShAt (H : Hp) (a : Addr) (ps : List Pc) : Prop := ∃ xs, H a = some (.lst xs) ∧ PcsAt H xs ps
abbrev ShsAt (H : Hp) : List Addr → List (List Pc) → Prop := Paired (ShAt H)
theorem ShAt.mono {H H' : Hp} {a : Addr} {ps : List Pc} (h : ShAt H a ps) (s : Same H H') : ShAt H' a ps := let ⟨xs, e, q⟩ := h; ⟨xs, s _ _ e, q.mono s.tps⟩
theorem ShsAt.mono {H H' : Hp} {as : List Addr} {S : List (List Pc)} (h : ShsAt H as S) (s : Same H H') : ShsAt H' as S := Paired.mapP h fun _ _ q => q.mono s
/-- shares: a list of such -/
def SsAt (H : Hp) (p : Addr) (as : List Addr) (S : List (List Pc)) : Prop := H p = some (.lst (as.map V.ref)) ∧ ShsAt H as S
theorem SsAt.mono {H H' : Hp} {p : Addr} {as : List Addr} {S : List (List Pc)} (h : SsAt H p as S) (s : Same H H') : SsAt H' p as S := ⟨s _ _ h.1, h.2.mono s⟩
theorem ShAt.write {H : Hp} {a c : Addr} {o : HO} {ps : List Pc} {xs : List V} (h : ShAt H a ps) (n : a ≠ c) (hc : H c = some (.lst xs)) : ShAt (upd H c o) a ps := by
  obtain ⟨ys, e, q⟩ := h
  refine ⟨ys, by rw [upd_ne n]; exact e, q.mono fun b zs z => ?_⟩
  rw [upd_ne (fun y => by rw [y, hc] at z; cases z)]; exact z
theorem ShsAt.write {H : Hp} {c : Addr} {o : HO} {xs : List V} (hc : H c = some (.lst xs)) : ∀ {as : List Addr} {S : List (List Pc)}, ShsAt H as S → (∀ a ∈ as, a ≠ c) → ShsAt (upd H c o) as S
  | _, _, .nil, _ => .nil
  | _, _, .cons h t, n => .cons (h.write (n _ (by simp)) hc) (ShsAt.write hc t fun a m => n a (by simp [m]))
theorem SsAt.write {H : Hp} {p c : Addr} {o : HO} {xs : List V} {as : List Addr} {S : List (List Pc)} (h : SsAt H p as S) (hc : H c = some (.lst xs)) (n1 : p ≠ c) (n2 : ∀ a ∈ as, a ≠ c) : SsAt (upd H c o) p as S :=
  ⟨by rw [upd_ne n1]; exact h.1, ShsAt.write hc h.2 n2⟩
/-! as data -/
def pcD (r : Pc) : PyData := .tuple [.int r.1, .int r.2]
def shD (ps : List Pc) : PyData := .list (ps.map pcD)
def ssD (S : List (List Pc)) : PyData := .list (S.map shD)
theorem pc_dat {K : PySem.W.Frag} {H : Hp} {v : V} {r : Pc} (h : PcAt H v r) : DatR K H (pcD r) v := by
  obtain ⟨p, rfl, e⟩ := h
  exact ⟨p, _, rfl, SqT.of e, _, _, rfl, rfl, _, _, rfl, rfl, rfl⟩
theorem pcs_dat {K : PySem.W.Frag} {H : Hp} : ∀ {vs : List V} {rs : List Pc}, PcsAt H vs rs → DatA K H (rs.map pcD) vs
  | _, _, .nil => rfl
  | _, _, .cons h t => ⟨_, _, rfl, pc_dat h, pcs_dat t⟩
theorem sh_dat {K : PySem.W.Frag} {H : Hp} {a : Addr} {ps : List Pc} (h : ShAt H a ps) : DatR K H (shD ps) (.ref a) := let ⟨xs, e, q⟩ := h; ⟨a, xs, rfl, SqL.of e, pcs_dat q⟩
theorem shs_dat {K : PySem.W.Frag} {H : Hp} : ∀ {as : List Addr} {S : List (List Pc)}, ShsAt H as S → DatA K H (S.map shD) (as.map V.ref)
  | _, _, .nil => rfl
  | _, _, .cons h t => ⟨_, _, rfl, sh_dat h, shs_dat t⟩
theorem ss_dat {K : PySem.W.Frag} {H : Hp} {p : Addr} {as : List Addr} {S : List (List Pc)} (h : SsAt H p as S) : DatR K H (ssD S) (.ref p) := ⟨p, _, rfl, SqL.of h.1, shs_dat h.2⟩
theorem pcs_can : ∀ ps : List Pc, PyData.canLayAll0 (ps.map pcD) = true
  | [] => rfl
  | r :: t => by
    show (PyData.canLay0 (pcD r) && PyData.canLayAll0 (t.map pcD)) = true
    rw [pcs_can t, Bool.and_true]; rfl
theorem shD_can (ps : List Pc) : (shD ps).canLay0 = true := pcs_can ps
theorem shs_can : ∀ S : List (List Pc), PyData.canLayAll0 (S.map shD) = true
  | [] => rfl
  | r :: t => by
    show (PyData.canLay0 (shD r) && PyData.canLayAll0 (t.map shD)) = true
    rw [shs_can t, Bool.and_true]; exact shD_can r
theorem ssD_can (S : List (List Pc)) : (ssD S).canLay0 = true := shs_can S
theorem pcs_depth : ∀ l : List Pc, PyData.depthAll (l.map pcD) ≤ 4
  | [] => by simp [PyData.depthAll]
  | r :: t => by
    have ih := pcs_depth t
    simp only [List.map_cons, PyData.depthAll, pcD, PyData.depth] at ih ⊢
    omega
theorem shD_depth (ps : List Pc) : (shD ps).depth ≤ 6 := by
  have h := pcs_depth ps
  simp only [shD, PyData.depth]
  omega
theorem shs_depth : ∀ l : List (List Pc), PyData.depthAll (l.map shD) ≤ 6
  | [] => by simp [PyData.depthAll]
  | r :: t => by
    have ih := shs_depth t
    have h := shD_depth r
    simp only [List.map_cons, PyData.depthAll] at ih ⊢
    omega
theorem ssD_depth (S : List (List Pc)) : (ssD S).depth ≤ 8 := by
  have h := shs_depth S
  simp only [ssD, PyData.depth]
  omega
theorem eqv_pc (r q : Pc) : PyData.eqv (pcD r) (pcD q) = decide (r = q) := by
  obtain ⟨g, l⟩ := r
  obtain ⟨g', l'⟩ := q
  simp only [pcD, PyData.eqv, PyData.eqvAll, Bool.and_true]
  by_cases h1 : g = g' <;> by_cases h2 : l = l' <;> simp [h1, h2]
theorem eqvAll_map {α : Type} [DecidableEq α] {d : α → PyData} (hd : ∀ a b, PyData.eqv (d a) (d b) = decide (a = b)) : ∀ (a b : List α), PyData.eqvAll (a.map d) (b.map d) = decide (a = b) := by
  intro a b
  induction a generalizing b with
  | nil => cases b <;> simp [PyData.eqvAll]
  | cons r t ih =>
    cases b with
    | nil => simp [PyData.eqvAll]
    | cons q u =>
      simp only [List.map_cons, PyData.eqvAll, ih u, hd r q]
      by_cases h1 : r = q <;> by_cases h2 : t = u <;> simp [h1, h2]
theorem eqv_sh (a b : List Pc) : PyData.eqv (shD a) (shD b) = decide (a = b) := eqvAll_map eqv_pc a b
theorem eqv_ss (a b : List (List Pc)) : PyData.eqv (ssD a) (ssD b) = decide (a = b) := eqvAll_map eqv_sh a b
end L2

set_option linter.all false
/-! there is a half place -/
namespace Bk
end Bk

set_option linter.all false
/-! a bank dealt by halves -/
namespace L2
end L2

set_option linter.all false
/-! halves of a bank are banks with half its ground -/
namespace Bk
theorem put_good {bs : List Rw} {r : Rw} (h : 0 ≤ r.2) (a : Alt bs) (p : ∀ x ∈ bs, 0 < x.2) : Alt (put bs r) ∧ ∀ x ∈ put bs r, 0 < x.2 := by
  rcases snoc_cases bs with rfl | ⟨i, b, rfl⟩
  · rw [put_nil]
    split
    · exact ⟨True.intro, by simpa⟩
    · exact ⟨True.intro, by simp⟩
  · rw [put_snoc]
    split
    · rename_i e
      have g : (i ++ [b])[i.length]? = some b := by simp
      have a2 := alt_set (b.2 + r.2) (i ++ [b]) i.length b g a
      have e2 : (i ++ [b]).set i.length (b.1, b.2 + r.2) = i ++ [(r.1, b.2 + r.2)] := by simp [List.set_append, e]
      rw [e2] at a2
      have pb := p b (by simp)
      refine ⟨a2, fun x hx => ?_⟩
      rcases List.mem_append.mp hx with y | y
      · exact p x (by simp [y])
      · rw [List.mem_singleton.mp y]; show 0 < b.2 + r.2; omega
    · rename_i e
      split
      · rename_i l
        refine ⟨alt_snoc a fun c hc => ?_, fun x hx => ?_⟩
        · have : b = c := by simpa using hc
          rw [← this]; exact e
        · rcases List.mem_append.mp hx with y | y
          · exact p x y
          · rw [List.mem_singleton.mp y]; exact l
      · exact ⟨a, p⟩
theorem fold_good : ∀ (rs acc : List Rw), (∀ r ∈ rs, 0 ≤ r.2) → Alt acc → (∀ x ∈ acc, 0 < x.2) → Alt (rs.foldl put acc) ∧ ∀ x ∈ rs.foldl put acc, 0 < x.2
  | [], acc, _, a, p => ⟨a, p⟩
  | r :: t, acc, h, a, p => by
    obtain ⟨a1, p1⟩ := put_good (h r (by simp)) a p
    exact fold_good t (put acc r) (fun x hx => h x (by simp [hx])) a1 p1
theorem tidy_good (rs : List Rw) (h : ∀ r ∈ rs, 0 ≤ r.2) : Alt (tidy rs) ∧ ∀ x ∈ tidy rs, 0 < x.2 := fold_good rs [] h True.intro (by simp)
end Bk
namespace L2
open Bk
variable {rs : List Rw}
end L2

set_option linter.all false
/-! two rows side by side, and the walk to the half place -/
namespace Bk
/-! cum of what is cut out -/
end Bk
namespace L2
open Bk
variable {rs : List Rw}
end L2

set_option Elab.async false
set_option linter.all false
set_option maxRecDepth 100000
/-! L6b: named rows and runs on the heap -/
namespace L2
open PySem PySem.Spec PyProof.Rows
theorem tps_lst {H : Hp} {c : Addr} {xs : List V} {o : HO} (h : H c = some (.lst xs)) : Tps H (upd H c o) := fun b zs e => by
  rw [upd_ne (fun z => by rw [z, h] at e; cases e)]; exact e
end L2

set_option Elab.async false
set_option linter.all false
set_option maxRecDepth 100000
/-! L7a: texts -/
namespace L2
open PySem PySem.Spec PyProof.Rows
open PySem.Builtin.Str
theorem vals_strs : ∀ {ss : List Str} {its : List Value}, Vals (ss.map V.str) its → ∃ l : List (Str × Tok), its = strValues l ∧ l.map (·.1) = ss
  | [], _, .nil => ⟨[], rfl, rfl⟩
  | x :: ss, _, .cons ⟨t, rfl⟩ r => by
    obtain ⟨l, e1, e2⟩ := vals_strs r
    exact ⟨(x, t) :: l, by rw [e1]; rfl, by simp [e2]⟩
theorem strsFrom_vals : ∀ (ps : List Str) (t : Nat), Vals (ps.map V.str) (strsFrom t ps)
  | [], _ => .nil
  | p :: r, t => .cons ⟨_, rfl⟩ (strsFrom_vals r (t + 1))
section
variable {X : Cx}
/-- sep.join(list of texts) -/
theorem mt_join : MtR X "str.join" (fun x vs H Q => ∃ z p ss, x = .str z ∧ vs = [.ref p] ∧ SqL X.K H p (ss.map V.str) ∧ JoinOk z ss = true ∧ Q (.str (Str.join z ss)) H) := by
  intro pins s σ H x vs v us Q I rx rv h
  obtain ⟨z, p, ss, rfl, rfl, hl, hz, q⟩ := h
  obtain ⟨t, rfl⟩ := rx
  obtain ⟨u, rfl, ru⟩ := rv.one
  cases ru
  obtain ⟨its, r, pl, _⟩ := I.list hl
  obtain ⟨l, rfl, e⟩ := vals_strs r
  have hz' := hz
  unfold JoinOk at hz'
  rw [Bool.not_eq_true'] at hz'
  refine call_meets F.slot_str_join (typeIs_str s z t) F.entry_str_join (F.args_str_join_2 _ _) (meets_str_join_list z t p l (by rw [e]; exact hz')) ⟨pl.isList, ?_⟩
  refine post_join l ⟨by rw [e]; exact joinOk_length hz, fun t' k => ?_⟩
  have e2 : Txt.join z (l.map (·.1)) = Str.join z ss := by rw [e]; exact StrLaws.glued_eq_join z ss
  exact ⟨.str (Str.join z ss), H, I.tok _, ⟨t', by rw [e2]⟩, q⟩
/-- text.split(sep) -/
theorem mt_split : MtR X "str.split" (fun x vs H Q => ∃ z y, x = .str z ∧ vs = [.str y] ∧ (y.length == 0) = false ∧ z.length + 2 ≤ sizeLine ∧ ∀ p, H p = none → Q (.ref p) (upd H p (.lst ((Txt.split z y).map V.str)))) := by
  intro pins s σ H x vs v us Q I rx rv h
  obtain ⟨z, y, rfl, rfl, hy, hz, q⟩ := h
  obtain ⟨t, rfl⟩ := rx
  obtain ⟨w, rfl, u, rfl⟩ := rv.one
  have hn := split_le z y
  have one : Txt.split z y = [z] → (listOfItself z t) X.A (wants (EP X pins σ Q) X.xe) s := fun e => by
    have q' := q s.heap.objs.size I.fresh
    rw [e] at q'
    show EP X pins σ Q _ _
    exact ⟨.ref _, _, I.lnew (its := [.str z t]) (ys := [.str z]) (t' := s.toks) (.cons ⟨_, rfl⟩ .nil) (by show 1 ≤ sizeLine; decide), rfl, q'⟩
  by_cases h1 : (decide (z.length < y.length) || decide (strKind z < strKind y)) = true
  · refine call_meets F.slot_str_split (typeIs_str s z t) F.entry_str_split (F.args_str_split_2 _ _) (meets_str_split_cannot_occur z y t u h1) (one ?_)
    unfold Txt.split; rw [if_pos h1]
  · have h1' : (decide (z.length < y.length) || decide (strKind z < strKind y)) = false := by simpa using h1
    by_cases h2 : (occurrences z y 0 z.length (z.length + 1)).isEmpty = true
    · refine call_meets F.slot_str_split (typeIs_str s z t) F.entry_str_split (F.args_str_split_2 _ _) (meets_str_split_not_found z y t u h1' hy h2) (one ?_)
      unfold Txt.split; rw [if_neg h1, if_pos h2]
    · have h2' : (occurrences z y 0 z.length (z.length + 1)).isEmpty = false := by simpa using h2
      have e : Txt.split z y = partsBetween z (occurrences z y 0 z.length (z.length + 1)) y.length := by unfold Txt.split; rw [if_neg h1, if_neg h2]
      rw [e] at hn q
      refine call_meets F.slot_str_split (typeIs_str s z t) F.entry_str_split (F.args_str_split_2 _ _) (meets_str_split_sep z y t u h1' hy h2' (by omega) (by omega)) ?_
      show EP X pins σ Q _ _
      exact ⟨.ref _, _, I.lnew (its := strsFrom s.toks _) (t' := _) (strsFrom_vals _ _) (by rw [List.length_map]; omega), rfl, q s.heap.objs.size I.fresh⟩
/-- int(text) -/
theorem call_intS : CallR X (.type "int") (fun xs H Q => ∃ z n, xs = [.str z] ∧ z.length ≤ 640 ∧ PySem.intText? z = some n ∧ Q (.int n) H) := by
  intro pins s σ H xs us Q I r h
  obtain ⟨z, n, rfl, hz, hn, q⟩ := h
  obtain ⟨u, rfl, t, rfl⟩ := vals1 r
  exact PySem.W.KIN.call_text hn hz ⟨.int n, H, I.tok _, ⟨_, rfl⟩, q⟩
/-- text * n -/
theorem op_mulS : OpR X (binaryOp .Mult) (fun x y H Q => ∃ z n, x = .str z ∧ y = .int n ∧ MulOk z n ∧ Q (.str (Txt.mul z n)) H) := by
  intro pins s σ H x y v u Q I rx ry h
  obtain ⟨z, n, rfl, rfl, hm, q⟩ := h
  obtain ⟨t, rfl⟩ := rx
  obtain ⟨t2, rfl⟩ := ry
  exact SB.mul hm fun t' k => ⟨.str _, H, I.tok _, ⟨t', rfl⟩, q⟩
/-- all(list of truths) -/
theorem call_all (hc : X.calm = true) : CallR X (.builtin "all") (fun xs H Q => ∃ (p : Addr) (bs : List Bool), xs = [.ref p] ∧ SqL X.K H p (bs.map V.bl) ∧ Q (.bl (bs.all id)) H) := by
  intro pins s σ H xs us Q I r h
  obtain ⟨p, bs, rfl, hl, q⟩ := h
  obtain ⟨u, rfl, rx⟩ := vals1 r
  cases rx
  obtain ⟨its, rv, pl, hz⟩ := I.list hl
  have hb : ∀ {cs : List Bool} {vs : List Value}, Vals (cs.map V.bl) vs → vs = cs.map Value.bool := by
    intro cs
    induction cs with
    | nil => intro vs h; cases h; rfl
    | cons b cs ih => intro vs h; cases h with
      | cons h1 h2 => rw [ih h2]; cases h1; rfl
  have eb := hb rv
  subst eb
  have hlt : p < s.heap.objs.size := by obtain ⟨_, e, _⟩ := pl.isList; exact Heap.lt_size e
  refine call_all_walk (wpAny_pyIter_list pl.isList ?_)
  refine ⟨s.heap.objs.size, [s.heap.objs.size, p], [s.heap.objs.size], (bs.map Value.bool).toArray.size, _, _, fun i => (bs[i]?).getD true, rfl, Walks.list (A := X.A.in1) (I.ok.hd hc) _ p (Nat.ne_of_lt hlt) (bs.map Value.bool).toArray,
    ⟨⟨_, Heap.get?_push_size _ rfl, rfl, rfl⟩, pl.isList.push _⟩, fun i v s' Q' E' hP hQ => ?_, fun h' tk hk => ?_⟩
  · have hP' : (bs.map Value.bool)[i]? = some v := by simpa using hP
    rw [List.getElem?_map] at hP'
    obtain ⟨b, e, rfl⟩ := Option.map_eq_some_iff.mp hP'
    simp only [e, Option.getD_some] at hQ
    exact wpAny_truthy_bool hQ
  · have e : ((List.range (bs.map Value.bool).toArray.size).all fun i => (bs[i]?).getD true) = bs.all id := by
      rw [List.size_toArray, List.length_map]; exact PyProof.Rows.LSm.range_all bs
    rw [e]
    exact ⟨.bl _, H, I.kept (PyProof.Rows.LSm.kept_iter hk), rfl, q⟩
end
end L2

set_option Elab.async false
set_option linter.all false
set_option maxRecDepth 100000
/-! L7b: walking a text; slices of texts -/
namespace L2
open PySem PySem.Spec PyProof.Rows
def sg (c : Nat) : Str := ⟨#[c]⟩
def Its (x : Str) : It := ⟨fun i _ => i < x.cps.size, fun i H v H' => H' = H ∧ ∃ c, x.cps[i]? = some c ∧ v = .str (sg c), fun i _ => x.cps.size ≤ i⟩
theorem turn_str {P : Program} {w : World} {K : PySem.W.Frag} {tg : Expr} (it : Addr) (x : Str) (t : Tok) (ty : String) (hty : ty = "str_ascii_iterator" ∨ ty = "str_iterator") : Turn P w K tg (Its x) [it] it (fun i h => h.IsStrIter it ty x t i) where
  mem := by simp
  obj := fun i h st b hb => by
    have e : b = it := by simpa using hb
    subst e
    obtain ⟨o, e, c, d⟩ := st
    exact ⟨o, e, fun v z => by rw [d] at z; cases z⟩
  keep := fun i h h' st k => let ⟨o, e, r⟩ := st; ⟨o, k it (by simp) o e, r⟩
  item := by
    intro X hP hw hK hc i pins s σ H E I hf st hg
    subst hP hw hK
    have hg : i < x.cps.size := hg
    obtain ⟨f0, f1, f2, f3, f4, f5⟩ := hf it (by simp)
    have hx : x.cps[i]? = some x.cps[i] := by simp [hg]
    rcases hty with rfl | rfl
    · refine wpAny_pyNext_ascii_item st hx fun h' st' sb => ?_
      have I1 : Inv X pins σ H { s with heap := h', toks := s.toks + 1 } := I.turned (t' := s.toks + 1) (fun b o hb e => (sb.2 b hb).trans e) f0 f1 f3 f4 f5
      obtain ⟨o, e, c, d⟩ := id st'
      exact ⟨_, rfl, go_of (s := { s with heap := h', toks := s.toks + 1 }) e c d (by decide) ⟨.str (sg x.cps[i]), H, I1, ⟨_, rfl⟩, ⟨rfl, _, hx, rfl⟩, st', fun b hb => (hf b hb).1⟩⟩
    · refine wpAny_pyNext_wide_item st hx fun h' st' sb => ?_
      have I1 : Inv X pins σ H { s with heap := h', toks := s.toks + 1 } := I.turned (t' := s.toks + 1) (fun b o hb e => (sb.2 b hb).trans e) f0 f1 f3 f4 f5
      obtain ⟨o, e, c, d⟩ := id st'
      exact ⟨_, rfl, go_of (s := { s with heap := h', toks := s.toks + 1 }) e c d (by decide) ⟨.str (sg x.cps[i]), H, I1, ⟨_, rfl⟩, ⟨rfl, _, hx, rfl⟩, st', fun b hb => (hf b hb).1⟩⟩
  done := by
    intro X hP hw hK hc i pins s σ H E I hf st hg
    subst hP hw hK
    have hg : x.cps.size ≤ i := hg
    obtain ⟨f0, f1, f2, f3, f4, f5⟩ := hf it (by simp)
    rcases hty with rfl | rfl
    · exact wpAny_pyNext_ascii_end (I.ok.hd hc) st (by simp; omega) fun h' eb => ⟨rfl, I.turned (t' := s.toks) (fun b o hb e => eb b o hb e) f0 f1 f3 f4 f5⟩
    · exact wpAny_pyNext_wide_end (I.ok.hd hc) st (by simp; omega) fun h' eb => ⟨rfl, I.turned (t' := s.toks) (fun b o hb e => eb b o hb e) f0 f1 f3 f4 f5⟩
  self := fun _ _ _ _ _ st h => by
    rcases hty with rfl | rfl
    · exact wpAny_pyIter_striter_ascii st h
    · exact wpAny_pyIter_striter_wide st h
section
variable {X : Cx} {tg : Expr}
def iStr (tl : TE) : TI := fun σ H R => tl σ H fun v H1 => ∃ x, v = .str x ∧ R (Its x) H1
theorem pi_str {l : Expr} {tl : TE} (hl : PE X l tl) : PI X tg l (iStr tl) := by
  intro pins s σ H R I h
  refine thn (hl pins s σ H _ I h) fun v s1 ⟨y, H1, I1, r1, q1⟩ => ?_
  obtain ⟨x, rfl, q⟩ := q1
  obtain ⟨t, rfl⟩ := r1
  refine wpAny_pyIter_strU ?_
  have I2 : Inv X pins σ H1 { s1 with heap := s1.heap.push { cls := .type (strIterType x), data := .fields #[.str x t, .int 0 0] } } := I1.kept (t' := s1.toks) fun b ob q => Heap.get?_push_of_some _ q
  have hty : strIterType x = "str_ascii_iterator" ∨ strIterType x = "str_iterator" := by unfold strIterType; split <;> simp
  refine ⟨s1.heap.objs.size, [s1.heap.objs.size], _, _, H1, rfl, I2, turn_str _ x t _ hty, ⟨_, Heap.get?_push_size _ rfl, rfl, rfl⟩, fun b hb => ?_, q⟩
  rw [List.mem_singleton.mp hb]
  exact I1.fpOk (Nat.le_refl _) (I1.hok.fresh (Nat.le_refl _))
end
/-- over the signs of a text -/
theorem for_str {x : Str} {g : TG} {tb : TS} {D : Ends} {σ : St} {H : Hp} (Pv : Nat → St → Hp → Prop) (h0 : Pv 0 σ H)
    (hs : ∀ i c σ H, x.cps[i]? = some c → Pv i σ H → g (.str (sg c)) σ H fun σ2 H2 => tb { D with nx := Pv (i + 1), ct := Pv (i + 1), bk := D.nx } σ2 H2) (hd : ∀ σ H, Pv x.cps.size σ H → D.nx σ H) :
    ∃ W : Nat → Nat → St → Hp → Prop, (∃ m, W 0 m σ H) ∧ ∀ i m σ H, W i m σ H →
      ((Its x).stop i H ∧ D.nx σ H) ∨ ((Its x).go i H ∧ ∃ N : St → Hp → Prop, (∀ σ' H', N σ' H' → ∃ m', m' < m ∧ W (i + 1) m' σ' H') ∧ ∀ v H', (Its x).yld i H v H' → g v σ H' fun σ2 H2 => tb { D with nx := N, ct := N, bk := D.nx } σ2 H2) := by
  refine ⟨fun i m σ H => m = x.cps.size - i ∧ i ≤ x.cps.size ∧ Pv i σ H, ⟨x.cps.size, by simp, Nat.zero_le _, h0⟩, ?_⟩
  rintro i m σ H ⟨rfl, hi, p⟩
  by_cases hlt : i < x.cps.size
  · refine .inr ⟨hlt, Pv (i + 1), fun σ' H' p' => ⟨x.cps.size - (i + 1), by omega, rfl, hlt, p'⟩, fun v H' y => ?_⟩
    obtain ⟨rfl, c, hc, rfl⟩ := y
    exact hs i c σ _ hc p
  · have e : i = x.cps.size := by omega
    subst e
    exact .inl ⟨Nat.le_refl _, hd σ H p⟩
/-- a comprehension over the signs of a text -/
theorem comp_str {p : Addr} {x : Str} {g : TG} {tt : TT} {te : TE} {σc : St} {H0 : Hp} {R : Hp → Prop} (Pv : Nat → List V → Hp → Prop) (h0 : Pv 0 [] H0) (hl : ∀ i ys H, Pv i ys H → H p = some (.lst ys))
    (hs : ∀ i c ys H, i < x.cps.size → x.cps[i]? = some c → Pv i ys H → g (.str (sg c)) σc H fun σ2 H2 => Wk σc σ2 ∧ tt σ2 H2 fun b H3 =>
      if b = true then te σ2 H3 fun y H4 => H4 p = some (.lst ys) ∧ ys.length < sizeLine ∧ Nx x.cps.size i (Pv (i + 1) (ys ++ [y]) (upd H4 p (.lst (ys ++ [y])))) else Nx x.cps.size i (Pv (i + 1) ys H3))
    (hd : ∀ ys H, Pv x.cps.size ys H → R H) : ∃ W : Nat → Nat → List V → Hp → Prop, (∃ m, W 0 m [] H0) ∧ cTurn (Its x) g tt te σc p W R := by
  refine ⟨fun i m ys H => m = x.cps.size - i ∧ i ≤ x.cps.size ∧ Pv i ys H, ⟨x.cps.size, by simp, Nat.zero_le _, h0⟩, ?_⟩
  rintro i m ys H ⟨rfl, hi, q⟩
  refine ⟨hl i ys H q, ?_⟩
  by_cases hlt : i < x.cps.size
  · refine .inr ⟨hlt, fun v H' y => ?_⟩
    obtain ⟨rfl, c, hc, rfl⟩ := y
    exact hs i c ys _ hlt hc q
  · have e : i = x.cps.size := by omega
    subst e
    exact .inl ⟨Nat.le_refl _, hd ys H q⟩
/-- a comprehension over enumerate of a list that the block leaves as it is -/
theorem comp_enum {K : PySem.W.Frag} {a p : Addr} {xs : List V} {g : TG} {tt : TT} {te : TE} {σc : St} {H0 : Hp} {R : Hp → Prop} (Pv : Nat → List V → Hp → Prop) (h0 : Pv 0 [] H0) (hl : ∀ i ys H, Pv i ys H → SqL K H a xs ∧ H p = some (.lst ys))
    (hs : ∀ i x ys H t, i < xs.length → xs[i]? = some x → Pv i ys H → H t = none → g (.ref t) σc (upd H t (.tup [.int i, x])) fun σ2 H2 => Wk σc σ2 ∧ tt σ2 H2 fun b H3 =>
      if b = true then te σ2 H3 fun y H4 => H4 p = some (.lst ys) ∧ ys.length < sizeLine ∧ Nx xs.length i (Pv (i + 1) (ys ++ [y]) (upd H4 p (.lst (ys ++ [y])))) else Nx xs.length i (Pv (i + 1) ys H3))
    (hd : ∀ ys H, Pv xs.length ys H → R H) : ∃ W : Nat → Nat → List V → Hp → Prop, (∃ m, W 0 m [] H0) ∧ cTurn (Ite K a) g tt te σc p W R := by
  refine ⟨fun i m ys H => m = xs.length - i ∧ i ≤ xs.length ∧ Pv i ys H, ⟨xs.length, by simp, Nat.zero_le _, h0⟩, ?_⟩
  rintro i m ys H ⟨rfl, hi, q⟩
  obtain ⟨q1, q2⟩ := hl i ys H q
  refine ⟨q2, ?_⟩
  by_cases hlt : i < xs.length
  · refine .inr ⟨⟨xs, xs[i], q1, by simp [hlt]⟩, fun x H' y => ?_⟩
    obtain ⟨t, v, ht, rfl, rfl, hv⟩ := y
    exact hs i v ys H t hlt (hv xs q1) q ht
  · have e : i = xs.length := by omega
    subst e
    exact .inl ⟨⟨xs, q1, Nat.le_refl _⟩, hd ys H q⟩
section
variable {X : Cx}
/-- text[lo:hi] -/
theorem sl_str : SlR X (fun x lo hi H Q => ∃ z, x = .str z ∧ z.length ≤ sizeLine ∧ Q (.str (Txt.slice z lo hi)) H) := by
  intro pins s σ H x v vl vu lo hi sl Q I rx hs pl pu h
  obtain ⟨z, rfl, hz, q⟩ := h
  obtain ⟨t, rfl⟩ := rx
  obtain ⟨l, hl1, hl2⟩ : ∃ l : Option (Int × Tok), vl = partValue l ∧ l.map (·.1) = lo := by
    cases pl with
    | none => exact ⟨none, rfl, rfl⟩
    | int i t => exact ⟨some (i, t), rfl, rfl⟩
  obtain ⟨u, hu1, hu2⟩ : ∃ l : Option (Int × Tok), vu = partValue l ∧ l.map (·.1) = hi := by
    cases pu with
    | none => exact ⟨none, rfl, rfl⟩
    | int i t => exact ⟨some (i, t), rfl, rfl⟩
  subst hl1 hu1
  refine ⟨"str", _, F.slot_str_getitem.lookup, typeIs_str _ _ _, wpAny_getItem_str_slice (l := l) (u := u) (st := none) ?_ rfl ?_⟩
  · exact hs
  · refine post_val_or_str ⟨Nat.le_trans (Txt.slice_le z _ _) hz, fun t' k => ?_⟩
    subst hl2 hu2
    exact ⟨.str (Txt.slice z (l.map (·.1)) (u.map (·.1))), H, I.tok _, ⟨t', rfl⟩, q⟩
end
end L2

set_option Elab.async false
set_option linter.all false
set_option maxRecDepth 100000
/-! L7c: f"{a}x{b}" -/
namespace L2
open PySem PySem.Spec PyProof.Rows
/-- how a text or a number is shown -/
def Shw (v : V) (z : Str) : Prop := (v = .str z ∧ z.length ≤ sizeLine) ∨ ∃ i : Int, v = .int i ∧ i.natAbs.log2 < 1920 ∧ z = (toString i : Str)
def tFmt3 (x : Str) (ta tb : TE) : TE := fun σ H Q => ta σ H fun v H1 => ∃ z, Shw v z ∧ (Str.empty ++ z ++ x).length ≤ sizeLine ∧ tb σ H1 fun w H2 => ∃ y, Shw w y ∧ (Str.empty ++ z ++ x ++ y).length ≤ sizeLine ∧ Q (.str (Str.empty ++ z ++ x ++ y)) H2
section
variable {X : Cx} {x : Str} {cp vp dp jp : Pos} {ta tb : TE} {a b : Expr}
theorem fmt_of {A : Around} {E : Value → Shared → Prop} {s : Shared} {v : V} {u : Value} {z : Str} {Q : Value → Shared → Prop} (r : RelV v u) (h : Shw v z) (k : ∀ t tk, Q (.str z t) { s with toks := tk }) : wpAny (model X.prog X.w) A (formatField u Str.empty) Q E s := by
  rcases h with ⟨rfl, hz⟩ | ⟨i, rfl, hi, rfl⟩
  · obtain ⟨t, rfl⟩ := r
    exact formatField_str (fun t' tk => k t' tk) hz
  · obtain ⟨t, rfl⟩ := r
    exact formatField_int_small hi (k _ _)
theorem pe_fmt3 {j} (hv : PE X a ta) (hw : PE X b tb) : PE X (.JoinedStr [.FormattedValue a (-1) none vp, .Constant (.str x) j cp, .FormattedValue b (-1) none dp] jp) (tFmt3 x ta tb) := by
  intro pins s σ H Q I h
  refine JoinedStr_many (joinParts_cons (FormattedValue_plain ?_))
  refine thn (hv pins _ σ H _ I h) fun u s1 ⟨v, H1, I1, r, z, sz, hlen, q⟩ => ?_
  have l1 : (Str.empty ++ z).length ≤ sizeLine := by rw [Str.length_append] at hlen; omega
  refine fmt_of r sz fun t tk => ⟨l1, joinParts_cons (Calls.Constant_str ⟨hlen, joinParts_cons (FormattedValue_plain ?_)⟩)⟩
  refine thn (hw pins _ σ H1 _ ((I1.tok _).tok _) q) fun u2 s2 ⟨v2, H2, I2, r2, y, sy, hlen2, q2⟩ => ?_
  refine fmt_of r2 sy fun t2 tk2 => ⟨hlen2, joinParts_nil ?_ hlen2⟩
  exact ⟨.str _, H2, (I2.tok _).tok _, ⟨_, rfl⟩, q2⟩
end
end L2

set_option Elab.async false
set_option linter.all false
set_option maxRecDepth 100000
/-! L7d: an exception that leaves a comprehension's block -/
namespace Fly
open PySem
open Sem (wp)
section
variable {M : Model} {A : Around} {E : Value → Shared → Prop} {s : Shared} {base : Heap} {env : Env} {outer : List Env} {L e : Addr}
/-- an exception with its traceback at T, which is marked mk -/
def PreM (h : Heap) (e T : Addr) (cls : Value) (od : Option Addr) (mk : Value) : Prop :=
  ∃ oe vs oT ts, h.get? e = some oe ∧ oe.cls = cls ∧ oe.dict = od ∧ oe.data = .fields vs ∧ vs[1]? = some (.ref T) ∧ T ≠ e ∧ h.get? T = some oT ∧ oT.data = .fields ts ∧ ts[3]? = some mk
theorem preM_of {h : Heap} {T : Addr} {cls : Value} {od : Option Addr} (p : Pre h e [T] cls od) : PreM h e T cls od .none := by
  obtain ⟨oe, vs, h1, h2, h3, h4, h5⟩ := p
  rcases h5 with ⟨_, z⟩ | ⟨T', oT, ts, g1, g2, g3, g4, g5, g6⟩
  · cases z
  · cases g2
    exact ⟨oe, vs, oT, ts, h1, h2, h3, h4, g1, g3, g4, g5, g6⟩
theorem pre_of {h : Heap} {T : Addr} {cls : Value} {od : Option Addr} (p : PreM h e T cls od .none) : Pre h e [T] cls od := by
  obtain ⟨oe, vs, oT, ts, h1, h2, h3, h4, g1, g3, g4, g5, g6⟩ := p
  exact ⟨oe, vs, h1, h2, h3, h4, .inr ⟨T, oT, ts, g1, rfl, g3, g4, g5, g6⟩⟩
theorem noteM {T : Addr} {cls mk : Value} {od : Option Addr} {Q : Unit → Shared → Prop}
    (hfr : A.frames = some (env :: outer)) (hl : s.heap.FunFrames base (env :: outer)) (hf : env.frame = some L) (hp : PreM s.heap e T cls od mk) (hm : (mk == rawInt L) = false)
    (h : ∀ h' T', Lit ((env :: outer).filterMap (·.frame)) [T] e T' cls od (rawInt L) s.heap h' → Q () { s with heap := h' }) : wpAny M A (noteFrame (.ref e) env) Q E s := by
  obtain ⟨oe, vs, oT, ts, he, hc, hdd, hd, h1, hTe, hT, hdT, h3⟩ := hp
  subst hc hdd
  unfold noteFrame
  simp only [hf]
  refine wpAny_bind (wpAny_field he hd h1 ?_)
  rw [if_pos (show (Value.ref T != Value.none) = true from by simp)]
  refine wpAny_bind (wpAny_field hT hdT h3 ?_)
  rw [if_neg (show ¬ ((mk == rawInt L) = true) from by rw [hm]; decide)]
  refine wpAny_bind (wpAny_setField hT hdT (Array.getElem?_eq_some_iff.mp h3).1 ?_)
  have ot : ∀ b, b ≠ T → (s.heap.update T (Obj.mapFields (·.setIfInBounds 3 Value.none))).get? b = s.heap.get? b := fun b hb => Heap.get?_update_other _ _ (Ne.symm hb)
  have isT := Heap.get?_update_self (Obj.mapFields (·.setIfInBounds 3 Value.none)) hT (Obj.isFreed_of_fields (Obj.data_mapFields hdT _))
  have nr : ∀ b o, s.heap.get? b = some o → (∀ vs, o.data ≠ .fields vs) → b ≠ T := fun b o z nf q => by
    rw [q, hT] at z; cases z; exact nf ts hdT
  refine entry hfr (hl.of_keeps fun b o z nf => ⟨o, (ot b (nr b o z nf)).trans z, rfl⟩) hf ((ot e (Ne.symm hTe)).trans he) hd (Array.getElem?_eq_some_iff.mp h1).1 fun h' T' x => h h' T' ?_
  refine ⟨fun b o q n nf z => x.kp b o q (by simp) nf ((ot b (by simpa using n)).trans z), fun b o q n z => x.sl b o q (by simp) ((ot b (by simpa using n)).trans z), fun b o z => ?_, x.ex, x.tr, ?_, x.ne⟩
  · by_cases q : b = T
    · subst q; exact x.ol _ _ isT
    · exact x.ol b o ((ot b q).trans z)
  · by_cases q : T' = T
    · subst q; have := x.new; rw [isT] at this; cases this
    · rw [← ot T' q]; exact x.new
/-- the heap behind a last look at an exception -/
structure Lit2 (fr : List Addr) (e T T' : Addr) (cls : Value) (od : Option Addr) (h h' : Heap) : Prop where
  kp : ∀ b o, b ≠ e → b ≠ T → b ∉ fr → h.get? b = some o → h'.get? b = some o
  sl : ∀ b o, b ≠ e → b ≠ T → h.get? b = some o → ∃ sl, h'.get? b = some { o with slots := sl }
  ol : ∀ b o, h.get? b = some o → ∃ o', h'.get? b = some o'
  pre : Pre h' e [T'] cls od
  tn : T' = T ∨ h.get? T' = none
theorem landsM {T : Addr} {cls mk : Value} {od : Option Addr} {Q : Unit → Shared → Prop}
    (hfr : A.frames = some (env :: outer)) (hl : s.heap.FunFrames base (env :: outer)) (hf : env.frame = some L) (hp : PreM s.heap e T cls od mk)
    (h : ∀ h' T', Lit2 ((env :: outer).filterMap (·.frame)) e T T' cls od s.heap h' → Q () { s with heap := h' }) :
    wpAny M A (noteFrame (.ref e) env) (fun _ s' => wpAny M A (setFlight (.ref e) none) Q E s') E s := by
  cases hm : (mk == rawInt L) with
  | true =>
    obtain ⟨oe, vs, oT, ts, he, hc, hdd, hd, h1, hTe, hT, hdT, h3⟩ := hp
    subst hc hdd
    unfold noteFrame
    simp only [hf]
    refine wpAny_bind (wpAny_field he hd h1 ?_)
    rw [if_pos (show (Value.ref T != Value.none) = true from by simp)]
    refine wpAny_bind (wpAny_field hT hdT h3 ?_)
    rw [if_pos hm]
    refine wpAny_pure ?_
    have hsz : 3 < ts.size := (Array.getElem?_eq_some_iff.mp h3).1
    refine wpAny_setFlight_none he hd h1 hT hdT hsz (h _ T ?_)
    have ot : ∀ b, b ≠ T → (s.heap.update T (Obj.mapFields (·.setIfInBounds 3 Value.none))).get? b = s.heap.get? b := fun b hb => Heap.get?_update_other _ _ (Ne.symm hb)
    have isT := Heap.get?_update_self (Obj.mapFields (·.setIfInBounds 3 Value.none)) hT (Obj.isFreed_of_fields (Obj.data_mapFields hdT _))
    refine ⟨fun b o _ n _ z => (ot b n).trans z, fun b o _ n z => ⟨o.slots, (ot b n).trans z⟩, fun b o z => ?_, ⟨oe, vs, (ot e (Ne.symm hTe)).trans he, rfl, rfl, hd, .inr ⟨T, _, _, h1, rfl, hTe, isT, Obj.data_mapFields hdT _, by simp [hsz]⟩⟩, .inl rfl⟩
    by_cases q : b = T
    · subst q; exact ⟨_, isT⟩
    · exact ⟨o, (ot b q).trans z⟩
  | false =>
    refine noteM hfr hl hf hp hm fun h1 T1 x => ?_
    obtain ⟨oe, vs, he, hc, hdd, hd, h1'⟩ := x.ex
    obtain ⟨oT, ts, hT, hdT, h3⟩ := x.tr
    have hsz : 3 < ts.size := (Array.getElem?_eq_some_iff.mp h3).1
    refine wpAny_setFlight_none (s := { s with heap := h1 }) he hd h1' hT hdT hsz (h _ T1 ?_)
    have ot : ∀ b, b ≠ T1 → (h1.update T1 (Obj.mapFields (·.setIfInBounds 3 Value.none))).get? b = h1.get? b := fun b hb => Heap.get?_update_other _ _ (Ne.symm hb)
    have isT := Heap.get?_update_self (Obj.mapFields (·.setIfInBounds 3 Value.none)) hT (Obj.isFreed_of_fields (Obj.data_mapFields hdT _))
    have nT : ∀ b o, s.heap.get? b = some o → b ≠ T1 := fun b o z q => by rw [q, x.new] at z; cases z
    refine ⟨fun b o q n nf z => (ot b (nT b o z)).trans (x.kp b o q (by simpa using n) nf z), fun b o q n z => ?_, fun b o z => ?_, ⟨oe, vs, (ot e (Ne.symm x.ne)).trans he, hc, hdd, hd, .inr ⟨T1, _, _, h1', rfl, x.ne, isT, Obj.data_mapFields hdT _, by simp [hsz]⟩⟩, .inr x.new⟩
    · obtain ⟨sl, w⟩ := x.sl b o q (by simpa using n) z
      exact ⟨sl, (ot b (nT b o z)).trans w⟩
    · obtain ⟨o', w⟩ := x.ol b o z
      exact ⟨o', (ot b (nT b o z)).trans w⟩
end
end Fly
namespace L2
open PySem PySem.Spec PyProof.Rows
section
variable {P : Program} {w : World} {H : Hp} {h h' : Heap} {fr fs : List Addr} {e T T' : Addr} {cls : Value} {od : Option Addr} {H₀ : Hp} {h₀ : Heap}
theorem un_lit2 (u : Un fs [] H₀ H h₀ h) (x : Fly.Lit2 fr e T T' cls od h h') (he : h₀.get? e = none) (ho : h₀.get? T = none) (hfr : ∀ b ∈ fr, b ∈ fs ∨ h₀.get? b = none) : Un fs [] H₀ H h₀ h' := by
  have ne : ∀ b o, h₀.get? b = some o → b ≠ e := fun b o q z => by rw [z, he] at q; cases q
  have no : ∀ b o, h₀.get? b = some o → b ≠ T := fun b o q z => by rw [z, ho] at q; cases q
  refine ⟨fun b o q n hb hx => ?_, fun b o q n hb hx => ?_, u.free, fun b o q hx => ?_, u.tups, u.frzs, u.tbls⟩
  · refine x.kp b o (ne b o q) (no b o q) (fun z => ?_) (u.keep b o q n hb hx)
    rcases hfr b z with z | z
    · exact hb z
    · rw [z] at q; cases q
  · obtain ⟨sl, e1⟩ := u.slot b o q n hb hx
    obtain ⟨sl', e2⟩ := x.sl b _ (ne b o q) (no b o q) e1
    exact ⟨sl', e2⟩
  · obtain ⟨o', e1⟩ := u.there b o q hx
    exact x.ol b o' e1
theorem hok_lit2 (k : HOk P w H h) (x : Fly.Lit2 fr e T T' cls od h h') (he : H e = none) (ho : H T = none) (hfr : ∀ b ∈ fr, H b = none) : HOk P w H h' := fun a o q =>
  (k a o q).stay (fun b u hb z => by
    have nb : H b ≠ none := by
      rcases hb with rfl | hb
      · rw [q]; intro z; cases z
      · rw [hb]; intro z; cases z
    exact x.kp b u (fun z => nb (z ▸ he)) (fun z => nb (z ▸ ho)) (fun z => nb (hfr b z)) z) (fun _ q => q) fun _ _ q => q
theorem un_same (u : Un fs [] H₀ H h₀ h) (k : ∀ b o, h₀.get? b = some o → h'.get? b = h.get? b) : Un fs [] H₀ H h₀ h' :=
  ⟨fun b o q n hb hx => (k b o q).trans (u.keep b o q n hb hx), fun b o q n hb hx => let ⟨sl, z⟩ := u.slot b o q n hb hx; ⟨sl, (k b o q).trans z⟩, u.free, fun b o q hx => let ⟨o', z⟩ := u.there b o q hx; ⟨o', (k b o q).trans z⟩, u.tups, u.frzs, u.tbls⟩
theorem hok_same (x : HOk P w H h) (k : ∀ b, H b ≠ none → h'.get? b = h.get? b) : HOk P w H h' := fun a o q =>
  (x a o q).stay (fun b u hb z => by
    have nb : H b ≠ none := by
      rcases hb with rfl | hb
      · rw [q]; intro z; cases z
      · rw [hb]; intro z; cases z
    exact (k b nb).trans z) (fun _ q => q) fun _ _ q => q
end
/-- an exception with a traceback (marked or not) leaves the body -/
theorem leavesF {P : Program} {w : World} {K : PySem.W.Frag} {mg : Str → Option Value} {base : Heap} {N : List Str} {qual : Str} {scope : Scope} {f : Addr} {cd : Value} {A : Around} {outer : List Env} {s : Shared} {H : Hp} {E : XK}
    {H' : Hp} {s' : Shared} {e T : Addr} {cls mk : Value} {od : Option Addr}
    (fr : (A.deeper (envOfC qual scope s.heap.objs.size f cd)).frames = some (envOfC qual scope s.heap.objs.size f cd :: outer)) (st : s'.heap.FunFrames base (envOfC qual scope s.heap.objs.size f cd :: outer))
    (sub : ∀ b ∈ frs (envOfC qual scope s.heap.objs.size f cd :: outer), b ∈ s.heap.objs.size :: frs outer) (fre : ∀ b ∈ frs (envOfC qual scope s.heap.objs.size f cd :: outer), H' b = none)
    (os : s'.os = s.os) (bare : AllBare s'.gens) (un : Un (frs outer) [] H H' s.heap s'.heap) (hok : HOk P w H' s'.heap)
    (hp : Fly.PreM s'.heap e T cls od mk) (n1 : s.heap.get? e = none) (n2 : s.heap.get? T = none) (n3 : H' e = none) (n4 : H' T = none)
    (q : E cls od H') : (cxOf (CXE P w) P w K mg base N qual scope f cd A outer s H E).xe (.ref e) s' := by
  show wpAny (model P w) (A.deeper (envOfC qual scope s.heap.objs.size f cd)) (leaving (envOfC qual scope s.heap.objs.size f cd) (.ref e)) _ _ s'
  unfold leaving
  refine wpAny_bind (Fly.landsM (base := base) (L := s.heap.objs.size) (outer := outer) fr st rfl hp fun h' T' x => ?_)
  have hT : s.heap.get? T' = none := by
    rcases x.tn with z | z
    · rw [z]; exact n2
    · cases y : s.heap.get? T' with
      | none => rfl
      | some o =>
        obtain ⟨o', e1⟩ := un.there T' o y (fun z => nomatch z)
        rw [z] at e1; cases e1
  have hT2 : H' T' = none := by
    rcases x.tn with z | z
    · rw [z]; exact n4
    · exact hok.none_of z
  refine ⟨e, cls, od, H', rfl, os, bare, un_lit2 un x n1 n2 (fun b hb => ?_), hok_lit2 hok x n3 n4 fre, ⟨T', x.pre, n1, hT, n3, hT2⟩, q⟩
  rcases List.mem_cons.mp (sub b hb) with z | z
  · exact .inr (by rw [z]; exact Heap.get?_none_of_le (Nat.le_refl _))
  · exact .inl z
end L2

set_option Elab.async false
set_option linter.all false
set_option maxRecDepth 100000
/-! L7e: comprehensions whose block may raise -/
namespace L2
open PySem PySem.Spec PyProof.Rows
/-- how an exception lies when it leaves a block -/
def cxe (X : Cx) (E : XK) (s₀ : Shared) (H₀ : Hp) (C : Addr) (fp : List Addr) : Value → Shared → Prop := fun e s' =>
  ∃ (a T : Addr) (cls : Value) (od : Option Addr) (H' : Hp), e = .ref a ∧ s'.os = s₀.os ∧ AllBare s'.gens ∧ Un (frs X.stack) fp H₀ H' s₀.heap s'.heap ∧ HOk X.prog X.w H' s'.heap ∧ Fly.PreM s'.heap a T cls od .none ∧
    (a ∈ fp ∨ s₀.heap.get? a = none) ∧ (T ∈ fp ∨ s₀.heap.get? T = none) ∧ H' a = none ∧ H' T = none ∧ (∃ m, s'.heap.Ns C m) ∧ H' C = none ∧ C ≠ a ∧ C ≠ T ∧ E cls od H'
def blkE (X : Cx) (E : XK) (scope : Scope) (cl : List (Str × Addr)) (Nc : List Str) (s₀ : Shared) (H₀ : Hp) (C : Addr) (ex : List Addr) (pn : List (Addr × Obj)) : Cx :=
  { X with N := Nc, s₀ := s₀, H₀ := H₀, env := compEnvC scope cl C X.env, outer := X.stack, ex := ex, fn := fun _ => false, pn := pn, xe := cxe X E s₀ H₀ C ex }
theorem pass_comp {X : Cx} {E : XK} {scope : Scope} {cl : List (Str × Addr)} {Nc : List Str} {s₀ : Shared} {H₀ : Hp} {C : Addr} {ex : List Addr} {pn : List (Addr × Obj)} : Passes (CXE X.prog X.w) (blkE X E scope cl Nc s₀ H₀ C ex pn) E := by
  intro pins σ H1 s1 e s' I hc
  obtain ⟨a, cls, od, H', rfl, h1, h2, h3, h4, ⟨T, hp, n1, n2, n3, n4⟩, q⟩ := hc
  have J := I.call' h1 h3 h4 h2 (fun _ z => nomatch z)
  have fr : ∀ z : Addr, s1.heap.get? z = none → z ∈ ex ∨ s₀.heap.get? z = none := fun z hz => by
    by_cases y : z ∈ ex
    · exact .inl y
    · refine .inr ?_
      cases v : s₀.heap.get? z with
      | none => rfl
      | some o =>
        obtain ⟨o', e1⟩ := I.base.there z o v y
        rw [hz] at e1; cases e1
  obtain ⟨m, hm, _⟩ := J.loc
  obtain ⟨m1, hm1, _⟩ := I.loc
  have nC : ∀ z : Addr, s1.heap.get? z = none → C ≠ z := fun z hz y => by
    obtain ⟨o, _, _, ho, _⟩ := hm1
    have ho : s1.heap.get? C = some o := ho
    rw [y, hz] at ho; cases ho
  exact ⟨a, T, cls, od, H', rfl, J.os, J.bare, J.base, J.hok, Fly.preM_of hp, fr a n1, fr T n2, n3, n4, ⟨m, hm⟩, J.free, nC a n1, nC T n2, q⟩
theorem comp_loopE {prog : Program} {w : World} {A : Around} {R : Result → Shared → Prop} {s : Shared} {elt target iter : Expr} {ifs : List Expr} {scope : Scope} {pos : Pos} {it acc : Value} {env : Env} {EX : Value → Shared → Prop} (I : Nat → Shared → Prop)
    (turn : ∀ n s, I n s → wpAny (model prog w) A (pyNext it) (fun r s₁ => match r with
      | none => R (.ok .next) s₁
      | some v => wpAny (model prog w) A (letOwnedTupleGo target it v) (fun _ s₁' => wpAny (model prog w) A (assign target env v) (fun _ s₂ =>
          wpAny (model prog w) A (forIn ifs true fun c r => if r = true then do let ok ← isTrue c env (eval c env); pure (ForInStep.yield ok) else pure (ForInStep.yield r)) (fun ok s₃ =>
            if ok = true then wpAny (model prog w) A (eval elt env) (fun x s₄ =>
              wpAny (model prog w) A (call (.builtin "list.append") [acc, x]) (fun _ s₅ => ∃ m, m < n ∧ I m s₅) EX s₄) EX s₃
            else ∃ m, m < n ∧ I m s₃) EX s₂) EX s₁') (fun _ _ => False) s₁) (fun _ _ => False) s)
    (hE : ∀ e s, EX e s → notedBy (model prog w) A env (fun e s => R (.error e) s) e s)
    (n : Nat) (h : I n s) : codeAny (model prog w) A (.compLoop (.ListComp elt [⟨target, iter, ifs, 0⟩] scope pos) 0 it acc env) R s := by
  refine codeAny_loop rfl I (fun n s hI => ?_) n h
  show wpAny _ A ((compTurn (.ListComp elt [⟨target, iter, ifs, 0⟩] scope pos) 0 it acc env).onRaise (fun x => do noteFrame x env; theTreesLotGoes x)) _ _ s
  refine wpAny_noted ?_
  rw [compTurn_list]
  have no : ∀ {E' : Value → Shared → Prop} (e : Value) (s : Shared), False → E' e s := fun _ _ z => z.elim
  refine wpAny_bind (wpAny_standAt (wpAny_bind (wpAny_mono (turn n s hI) (fun r s₁ h₁ => ?_) no)))
  cases r with
  | none => exact wpAny_pure h₁
  | some v =>
    refine wpAny_bind (wpAny_mono h₁ (fun _ s₁' h₁ => ?_) no)
    refine wpAny_bind (wpAny_mono h₁ (fun _ s₂ h₂ => wpAny_bind (wpAny_mono h₂ (fun ok s₃ h₃ => ?_) hE)) hE)
    cases ok with
    | false => exact wpAny_pure ⟨rfl, h₃⟩
    | true => exact wpAny_bind (wpAny_bind (wpAny_mono h₃ (fun x s₄ h₄ => wpAny_bind (wpAny_mono h₄ (fun _ s₅ h₅ => wpAny_pure (wpAny_pure ⟨rfl, h₅⟩)) hE)) hE))

section
variable {X : Cx} {scope : Scope} {cl : List (Str × Addr)} {Nc : List Str} {fv : List (Option Nat)} {elt tg iter : Expr} {ifs : List Expr} {pos : Pos} {g : TG} {tt : TT} {te : TE}
theorem comp_runE (hxx : X.ex = []) {E0 : XK} (O : CompOk X scope cl Nc fv) (hc : X.calm = true) (hg : ∀ s₀ H₀ C ex pn, PG (blkE X E0 scope cl Nc s₀ H₀ C ex pn) tg g) (ht : ∀ s₀ H₀ C ex pn, PIf (blkE X E0 scope cl Nc s₀ H₀ C ex pn) ifs tt)
    (he : ∀ s₀ H₀ C ex pn, PE (blkE X E0 scope cl Nc s₀ H₀ C ex pn) elt te)
    {pins : List (Addr × Obj)} {σ : St} {H : Hp} {s : Shared} {J : It} {fp : List Addr} {it : Addr} {tn : Nat → Heap → Prop} {R : Addr → Hp → Prop} {RR : Value → Addr → Result → Shared → Prop} {E : Value → Shared → Prop}
    (I : Inv X pins σ H s) (T : Turn X.prog X.w X.K tg J fp it tn) (st : tn 0 s.heap) (f : ∀ b ∈ fp, FpOk X pins H b)
    (h : ∀ p, H p = none → ∃ W : Nat → Nat → List V → Hp → Prop, (∃ m, W 0 m [] (upd H p (.lst []))) ∧ cTurn J g tt te (sig fv σ) p W (R p))
    (hER : ∀ p C s' a T cls od H', Inv X pins σ H' s' → Fly.PreM s'.heap a T cls od .none → X.s₀.heap.get? a = none → X.s₀.heap.get? T = none → H' a = none → H' T = none → (∃ m, s'.heap.Ns C m) → H' C = none → C ≠ a → C ≠ T → X.s₀.heap.objs.size ≤ C → C ∉ frs X.stack → E0 cls od H' → notedBy (model X.prog X.w) X.A (compEnvC scope cl C X.env) (fun e s => RR (.ref p) C (.error e) s) (.ref a) s')
    (hRR : ∀ p C s' H', Inv X pins σ H' s' → R p H' → H' C = none → (∃ m, s'.heap.Ns C m) → C ≠ X.env.locals → X.s₀.heap.objs.size ≤ C → (∀ x c, X.env.cells.lookup x = some c → c ≠ C) → (∀ q ∈ X.pn ++ pins, q.1 ≠ C) → RR (.ref p) C (.ok .next) s') :
    wpAny (model X.prog X.w) X.A (newList []) (fun acc s₃ => wpAny (model X.prog X.w) X.A (newFunctionEnv scope X.env.globals cl [] X.env.qual none .none (some X.env)) (fun cenv s₄ =>
      codeAny (model X.prog X.w) X.A (.compStart (.ListComp elt [⟨tg, iter, ifs, 0⟩] scope pos) 0 (.ref it) acc { cenv with scope := relabel scope X.env }) (RR acc cenv.locals) s₄) E s₃) E s := by
  have hp : H s.heap.objs.size = none := I.hok.fresh (Nat.le_refl _)
  obtain ⟨W, ⟨m0, w0⟩, hT⟩ := h _ hp
  refine wpAny_newObj_type (wpAny_newFunctionEnv O.ncell (by intro y hy; simp at hy) (fun h₁ hns hsb => ?_) O.kind)
  dsimp only at hns hsb ⊢
  have I3 := I.lnew (ys := []) (its := []) (t' := s.toks) .nil (Nat.zero_le _)
  generalize hs3 : ({ s with heap := s.heap.push { cls := .type "list", data := .seq ([] : List Value).toArray }, toks := s.toks } : Shared) = s3 at I3
  have hheap : s3.heap = s.heap.push { cls := .type "list", data := .seq ([] : List Value).toArray } := by rw [← hs3]
  generalize hp0 : s.heap.objs.size = p at I3 w0 hT hp
  have hC : s3.heap.objs.size = p + 1 := by rw [hheap, Heap.size_push, hp0]
  generalize hCC : (s.heap.push { cls := Value.type "list", dict := none, data := .seq ([] : List Value).toArray }).objs.size = C at hns hsb ⊢
  have hC3 : s3.heap.objs.size = C := by rw [hheap]; exact hCC
  have old : ∀ b o, s3.heap.get? b = some o → h₁.get? b = some o := fun b o e => by
    have lt : b < C := by rw [← hC3]; exact Heap.lt_size e
    refine hsb.extBut b o (Nat.ne_of_lt lt) (Heap.get?_push_of_some _ ?_)
    rw [hheap] at e
    exact e
  have ne3 : ∀ b o, s3.heap.get? b = some o → b ≠ C := fun b o e => by rw [← hC3]; exact Nat.ne_of_lt (Heap.lt_size e)
  have sub := O.sub.at
  have I4 : Inv (blkE X E0 scope cl Nc s3 (upd H p (.lst [])) C fp (X.pn ++ pins)) [] (sig fv σ) (upd H p (.lst [])) { s with heap := h₁, toks := s.toks + ([] : List (Str × Value)).length } := by
    refine ⟨⟨I3.ok.mod, ?_, I3.ok.glob, I3.ok.blt, ?_, ?_, ?_, ?_, I3.ok.hd, I3.ok.frames, .inl rfl, ?_, I3.bs, ?_, ?_, ?_, I3.stack, I3.stkFree⟩, ?_, ?_, Un.kept old, ⟨_, hns, ?_⟩, ?_, ?_, ?_, ?_, I3.hok.kept old, ?_⟩
    · exact O.kind
    · show s3.heap.objs.size ≤ C; rw [hC3]; exact Nat.le_refl _
    · intro x y c h1 h2; exact I3.ok.inj x y c (sub x c h1) (sub y c h2)
    · intro x hx; exact O.cells hx
    · intro x c hf; exact Bool.noConfusion hf
    · intro b hb
      obtain ⟨f0, f1, f2, f3, f4, f5⟩ := f b hb
      obtain ⟨o, ho, _⟩ := T.obj _ _ st b hb
      have lt : b < C := by rw [← hC3, hC, ← hp0]; exact Nat.lt_succ_of_lt (Heap.lt_size ho)
      exact ⟨Nat.ne_of_lt lt, fun x c e => f4 x c (sub x c e)⟩
    · exact Nat.le_trans I3.ok.bsz I3.sz
    · intro b o e hb
      obtain ⟨f0, f1, f2, f3, f4, f5⟩ := f b hb
      rcases f3 with z | z
      · exact I3.ok.noex b o e z
      · exact absurd (Nat.lt_of_lt_of_le (Nat.lt_of_lt_of_le (Heap.lt_size e) I3.ok.bsz) z) (Nat.lt_irrefl _)
    · intro b hb z
      obtain ⟨f0, f1, f2, f3, f4, f5⟩ := f b hb
      rcases List.mem_cons.mp (I3.stkSub b z) with z | z
      · exact f1 z
      · exact f2 z
    · show s.os = s3.os; rw [← hs3]
    · exact I.bare
    · intro k x v e1 e2 e3
      obtain ⟨j, q1, q2⟩ := sig_at e2
      obtain ⟨a1, a2, a3, a4⟩ := O.fvs.at q1 e1
      obtain ⟨m, _, hl⟩ := I3.loc
      obtain ⟨u, r, lk⟩ := hl j x v a1 q2 (.inr (.inl a2))
      refine ⟨u, r, ?_⟩
      rcases lk with ⟨z, _⟩ | ⟨_, c, e, o, ho, hd⟩
      · have z' : X.env.scope.names.lookup x = some .local := z
        rw [a2] at z'; cases z'
      · exact .inr ⟨.inl a4, c, a3.trans e, o, old c o ho, hd⟩
    · intro x c e
      obtain ⟨v, o, ho, hd⟩ := I3.cell x c (sub x c e)
      exact ⟨v, o, old c o ho, hd⟩
    · show upd H p (.lst []) C = none
      exact I3.hok.fresh (by rw [hC3]; exact Nat.le_refl _)
    · intro x c e; exact I3.freeC x c (sub x c e)
    · intro q hq
      have hq' : q ∈ X.pn ++ pins := by
        have z : q ∈ (X.pn ++ pins) ++ [] := hq
        rwa [List.append_nil] at z
      obtain ⟨a1, a2, a3, a4, a5⟩ := I3.pin q hq'
      refine ⟨old _ _ a1, a2, ne3 _ _ a1, fun z => ?_, a5⟩
      rcases List.mem_cons.mp (I3.stkSub _ z) with z | z
      · exact a3 z
      · exact a4 z
    · show (sig fv σ).length = Nc.length
      unfold sig
      rw [List.length_map]
      exact O.len
  have fpc : ∀ {H' : Hp}, (∀ b ∈ fp, H' b = none) → ∀ b ∈ fp, FpOk (blkE X E0 scope cl Nc s3 (upd H p (.lst [])) C fp (X.pn ++ pins)) [] H' b := fun hn b hb => by
    obtain ⟨f0, f1, f2, f3, f4, f5⟩ := f b hb
    refine ⟨hn b hb, (I4.ok.exf b hb).1, I4.ok.exfs b hb, .inl hb, (I4.ok.exf b hb).2, fun q hq => ?_⟩
    have hq' : q ∈ X.pn ++ pins := by
      have z : q ∈ (X.pn ++ pins) ++ [] := hq
      rwa [List.append_nil] at z
    exact f5 q hq'
  have st4 : tn 0 h₁ := T.keep _ _ _ st fun b hb o e => old b o (by rw [hheap]; exact Heap.get?_push_of_some _ e)
  have fn4 : ∀ b ∈ fp, upd H p (.lst []) b = none := fun b hb => by
    obtain ⟨f0, _⟩ := f b hb
    obtain ⟨o, ho, _⟩ := T.obj _ _ st b hb
    rw [upd_ne (by rw [← hp0]; exact Nat.ne_of_lt (Heap.lt_size ho))]
    exact f0
  have loop : codeAny (model X.prog X.w) X.A (.compLoop (.ListComp elt [⟨tg, iter, ifs, 0⟩] scope pos) 0 (.ref it) (.ref p) (compEnvC scope cl C X.env)) (RR (.ref p) C) { s with heap := h₁, toks := s.toks + ([] : List (Str × Value)).length } := by
    refine comp_loopE (EX := (blkE X E0 scope cl Nc s3 (upd H p (.lst [])) C fp (X.pn ++ pins)).xe) (fun n s' => ∃ i ys H', Inv (blkE X E0 scope cl Nc s3 (upd H p (.lst [])) C fp (X.pn ++ pins)) [] (sig fv σ) H' s' ∧ tn i s'.heap ∧ (∀ b ∈ fp, H' b = none) ∧ W i n ys H') ?_ ?err m0 ⟨0, [], _, I4, st4, fn4, w0⟩
    case err =>
      rintro e s6 ⟨a, T0, cls, od, H6, rfl, q1, q2, q3, q4, q5, q6, q7, q8, q9, q10, q11, q12, q13, q14⟩
      have J : Inv X pins σ H6 s6 := by
        refine I3.call' (ch := fp) q1 q3 q4 q2 fun b hb => ?_
        obtain ⟨f0, f1, f2, f3, f4, f5⟩ := f b hb
        exact ⟨f3, f1, f4, f5⟩
      have fresh : ∀ z : Addr, (z ∈ fp ∨ s3.heap.get? z = none) → X.s₀.heap.get? z = none := fun z hz => by
        cases y : X.s₀.heap.get? z with
        | none => rfl
        | some o =>
          rcases hz with hz | hz
          · obtain ⟨_, _, _, f3, _⟩ := f z hz
            rw [hxx] at f3
            rcases f3 with v | v
            · cases v
            · exact absurd (Nat.lt_of_lt_of_le (Heap.lt_size y) v) (Nat.lt_irrefl _)
          · obtain ⟨o', e1⟩ := I3.base.there z o y (by rw [hxx]; exact fun v => nomatch v)
            rw [hz] at e1; cases e1
      refine hER p C s6 a T0 cls od H6 J q5 (fresh a q6) (fresh T0 q7) q8 q9 q10 q11 q12 q13 (by rw [← hC3]; exact I3.sz) (fun z => ?_) q14
      obtain ⟨_, o, hz, _⟩ := I3.stack.mem z
      exact ne3 C o hz rfl
    rintro n s5 ⟨i, ys, H5, I5, st5, fn5, w5⟩
    obtain ⟨hl5, hh⟩ := hT i n ys H5 w5
    rcases hh with ⟨stop, q⟩ | ⟨go, step⟩
    · refine thn (T.done (blkE X E0 scope cl Nc s3 (upd H p (.lst [])) C fp (X.pn ++ pins)) rfl rfl rfl hc i [] s5 _ H5 _ I5 (fpc fn5) st5 stop) fun r s6 ⟨hr, I6⟩ => ?_
      subst hr
      obtain ⟨m6, hn6, _⟩ := I6.loc
      have I7 : Inv X pins σ H5 s6 := by
        refine I3.call' (ch := fp) I6.os I6.base I6.hok I6.bare fun b hb => ?_
        obtain ⟨f0, f1, f2, f3, f4, f5⟩ := f b hb
        exact ⟨f3, f1, f4, f5⟩
      refine hRR p C s6 H5 I7 q I6.free ⟨m6, hn6⟩ ?_ ?_ (fun x c e z => ?_) fun q hq z => ?_
      · rw [← hC3]; exact Nat.ne_of_gt I3.lt
      · rw [← hC3]; exact I3.sz
      · obtain ⟨v, o, ho, _⟩ := I3.cell x c e
        exact ne3 c o ho z
      · exact ne3 _ _ (I3.pin q hq).1 z
    · refine thn (T.item (blkE X E0 scope cl Nc s3 (upd H p (.lst [])) C fp (X.pn ++ pins)) rfl rfl rfl hc i [] s5 _ H5 (fun _ _ => False) I5 (fpc fn5) st5 go) fun r s6 ⟨u, hr, h6⟩ => ?_
      subst hr
      refine thn h6 fun _ s7 ⟨x, H7, I7, r7, y7, st7, fn7⟩ => ?_
      have I7' := I7.pinned (fpc fn7) (T.obj _ _ st7)
      refine thn (hg s3 (upd H p (.lst [])) C fp (X.pn ++ pins) _ s7 _ H7 x u _ I7' r7 (step x H7 y7)) fun _ s8 ⟨σ8, H8, I8, wk8, q8⟩ => ?_
      have again : ∀ {H9 : Hp} {s9 : Shared} {ys' : List V}, Inv (blkE X E0 scope cl Nc s3 (upd H p (.lst [])) C fp (X.pn ++ pins)) ([] ++ pinsAt fp s7.heap) σ8 H9 s9 → (∃ m', m' < n ∧ W (i + 1) m' ys' H9) →
          ∃ m, m < n ∧ ∃ i ys H', Inv (blkE X E0 scope cl Nc s3 (upd H p (.lst [])) C fp (X.pn ++ pins)) [] (sig fv σ) H' s9 ∧ tn i s9.heap ∧ (∀ b ∈ fp, H' b = none) ∧ W i m ys H' := fun {H9 s9 ys'} I9 ⟨m', hm, w9⟩ => by
        refine ⟨m', hm, i + 1, ys', H9, I9.unpinned.weak wk8.1.symm wk8.2, T.keep _ _ _ st7 fun b hb o e => (I9.pin (b, o) (List.mem_append_right _ (List.mem_append_right _ (mem_pinsAt hb e)))).1, fun b hb => ?_, w9⟩
        obtain ⟨o, e, d⟩ := T.obj _ _ st7 b hb
        exact (I9.pin (b, o) (List.mem_append_right _ (List.mem_append_right _ (mem_pinsAt hb e)))).2.1
      refine thn (ht s3 (upd H p (.lst [])) C fp (X.pn ++ pins) _ s8 σ8 H8 _ I8 q8) fun b s9 ⟨H9, I9, q9⟩ => ?_
      cases b with
      | false => exact again I9 q9
      | true =>
        refine thn (he s3 (upd H p (.lst [])) C fp (X.pn ++ pins) _ s9 σ8 H9 _ I9 q9) fun v s10 ⟨y, H10, I10, r10, hy, hz, q10⟩ => ?_
        refine thn (mt_append (X := blkE X E0 scope cl Nc s3 (upd H p (.lst [])) C fp (X.pn ++ pins)) _ s10 σ8 H10 (.ref p) [y] (.ref p) [v] (fun _ H' => ∃ m', m' < n ∧ W (i + 1) m' (ys ++ [y]) H') I10 rfl (.cons r10 .nil) ⟨p, ys, y, rfl, rfl, hy, hz, q10⟩) fun _ s11 ⟨_, H11, I11, _, q11⟩ => ?_
        exact again I11 q11
  exact codeAny_compStart_list loop (T.self _ _ _ _ _ st4 loop)

end
section
variable {P : Program} {w : World} {K : PySem.W.Frag} {mg : Str → Option Value} {base : Heap} {N : List Str} {qual : Str} {scope0 : Scope} {f : Addr} {cd : Value} {A : Around} {outer : List Env} {s0 : Shared} {H0 : Hp} {E : XK}
variable {scope : Scope} {cl : List (Str × Addr)} {Nc : List Str} {fv : List (Option Nat)} {elt tg iter : Expr} {ifs : List Expr} {pos : Pos} {g : TG} {tt : TT} {te : TE}
theorem frames_keep {h h' base : Heap} : ∀ {l : List Env}, (∀ b o, b ∈ frs l → h.get? b = some o → (∀ vs, o.data ≠ .fields vs) → ∃ o', h'.get? b = some o' ∧ o'.data = o.data) → h.FunFrames base l → h'.FunFrames base l
  | [], _, _ => trivial
  | env :: rest, k, hl => by
    obtain ⟨hk, ⟨L, o, hf, hn, ho, hd⟩, hr⟩ := hl
    have mem : L ∈ frs (env :: rest) := by
      show L ∈ (env :: rest).filterMap (·.frame)
      rw [List.filterMap_cons, hf]; simp
    obtain ⟨o', ho', hd'⟩ := k L o mem ho hd
    refine ⟨hk, ⟨L, o', hf, hn, ho', fun vs => hd' ▸ hd vs⟩, frames_keep (fun b o hb => k b o ?_) hr⟩
    show b ∈ (env :: rest).filterMap (·.frame)
    rw [List.filterMap_cons, hf]
    exact List.mem_cons_of_mem _ hb
theorem xe_comp {acc : Value} {Q : Value → Shared → Prop} {pins : List (Addr × Obj)} {σ : St} {C : Addr} {s' : Shared} {a T : Addr} {cls : Value} {od : Option Addr} {H' : Hp}
    (J : Inv (cxOf (CXE P w) P w K mg base N qual scope0 f cd A outer s0 H0 E) pins σ H' s') (hp : Fly.PreM s'.heap a T cls od .none) (n1 : s0.heap.get? a = none) (n2 : s0.heap.get? T = none) (n3 : H' a = none) (n4 : H' T = none)
    (hC : ∃ m, s'.heap.Ns C m) (hC2 : H' C = none) (c1 : C ≠ a) (c2 : C ≠ T) (c3 : s0.heap.objs.size ≤ C) (c4 : C ∉ frs (cxOf (CXE P w) P w K mg base N qual scope0 f cd A outer s0 H0 E).stack) (q : E cls od H') :
    notedBy (model P w) (cxOf (CXE P w) P w K mg base N qual scope0 f cd A outer s0 H0 E).A (compEnvC scope cl C (cxOf (CXE P w) P w K mg base N qual scope0 f cd A outer s0 H0 E).env)
      (fun e s => compPost (model P w) (cxOf (CXE P w) P w K mg base N qual scope0 f cd A outer s0 H0 E).A (cxOf (CXE P w) P w K mg base N qual scope0 f cd A outer s0 H0 E).xe none Q acc C (.error e) s) (.ref a) s' := by
  show wpAny _ _ (noteFrame (.ref a) (envOfC qual scope0 s0.heap.objs.size f cd)) _ _ _
  refine Fly.note (base := base) (L := s0.heap.objs.size) (outer := outer) J.ok.frames J.stack rfl (Fly.pre_of hp) fun h1 T1 x => ?_
  have fre := J.stkFree
  have sub := J.stkSub
  have hT1 : s0.heap.get? T1 = none := by
    cases z : s0.heap.get? T1 with
    | none => rfl
    | some o =>
      obtain ⟨o', e1⟩ := J.base.there T1 o z (fun z => nomatch z)
      rw [x.new] at e1; cases e1
  have hT1' : H' T1 = none := J.hok.none_of x.new
  have un1 : Un (frs outer) [] H0 H' s0.heap h1 := un_lit J.base x n1 (fun t ht => by rw [List.mem_singleton.mp ht]; exact n2) fun b hb => by
    rcases List.mem_cons.mp (sub b hb) with z | z
    · exact .inr (by rw [z]; exact Heap.get?_none_of_le (Nat.le_refl _))
    · exact .inl z
  have hok1 : HOk P w H' h1 := hok_lit J.hok x n3 (fun t ht => by rw [List.mem_singleton.mp ht]; exact n4) fre
  obtain ⟨m, oC, es, ep, hoC, rC⟩ := hC
  have hoC : s'.heap.get? C = some oC := hoC
  have hC1 : h1.get? C = some oC := x.kp C oC c1 (by simpa using c2) c4 hoC
  have nCT : C ≠ T1 := fun z => by rw [z, x.new] at hoC; cases hoC
  obtain ⟨oe, vs, he, hcl, hdd, hd, hv1⟩ := x.ex
  obtain ⟨oT, ts, hT, hdT, h3⟩ := x.tr
  have hsz : 3 < ts.size := (Array.getElem?_eq_some_iff.mp h3).1
  refine ⟨m, ⟨oC, es, ep, hC1, rC⟩, fun h' hs cenv _ => ?_⟩
  have he' : h'.get? a = some oe := (hs.2 a c1.symm).trans he
  have hT' : h'.get? T1 = some oT := (hs.2 T1 nCT.symm).trans hT
  unfold PySem.passOn
  refine wpAny_bind (wpAny_field he' hd hv1 ?_)
  rw [if_neg (show ¬ ((Value.ref T1 == Value.none) = true) from by simp)]
  refine wpAny_bind ?_
  unfold setFlight
  refine wpAny_bind (wpAny_field he' hd hv1 ?_)
  rw [if_pos (show (Value.ref T1 != Value.none) = true from by simp)]
  generalize hmk : (cenv.frame.elim Value.none fun f => rawInt f) = mk
  refine wpAny_setField hT' hdT hsz (wpAny_throw ?_)
  have ot : ∀ b, b ≠ T1 → (h'.update T1 (Obj.mapFields (·.setIfInBounds 3 mk))).get? b = h'.get? b := fun b hb => Heap.get?_update_other _ _ (Ne.symm hb)
  have isT := Heap.get?_update_self (Obj.mapFields (·.setIfInBounds 3 mk)) hT' (Obj.isFreed_of_fields (Obj.data_mapFields hdT _))
  have same : ∀ b, b ≠ C → b ≠ T1 → (h'.update T1 (Obj.mapFields (·.setIfInBounds 3 mk))).get? b = h1.get? b := fun b n1 n2 => (ot b n2).trans (hs.2 b n1)
  refine leavesF (mk := mk) (T := T1) J.ok.frames ?_ sub fre J.os J.bare (un_same un1 fun b o z => same b ?_ ?_) (hok_same hok1 fun b z => same b ?_ ?_) ?_ n1 hT1 n3 hT1' q
  · refine frames_keep (fun b o hb z nf => ?_) J.stack
    have nC : b ≠ C := fun y => c4 (y ▸ hb)
    have ne : b ≠ a := fun y => by
      obtain ⟨oe', vs', _, _, g1, _, _, g4, _⟩ := hp
      rw [y, g1] at z; cases z; exact nf vs' g4
    have nT : b ≠ T := fun y => by
      obtain ⟨_, _, oT', ts', _, _, _, _, _, _, g1, g2, _⟩ := hp
      rw [y, g1] at z; cases z; exact nf ts' g2
    have nT1 : b ≠ T1 := fun y => by rw [y, x.new] at z; cases z
    obtain ⟨sl, e1⟩ := x.sl b o ne (by simpa using nT) z
    exact ⟨_, (same b nC nT1).trans e1, rfl⟩
  · intro y; rw [y, Heap.get?_none_of_le c3] at z; cases z
  · intro y; rw [y, hT1] at z; cases z
  · intro y; exact z (y ▸ hC2)
  · intro y; exact z (y ▸ hT1')
  · exact ⟨oe, vs, _, _, (ot a (Ne.symm x.ne)).trans he', hcl, hdd, hd, hv1, x.ne, isT, Obj.data_mapFields hdT _, by simp [hsz]⟩
/-- [elt for tg in iter if ..], a block that may raise -/
theorem pe_compE {wi : TI} (O : CompOk (cxOf (CXE P w) P w K mg base N qual scope0 f cd A outer s0 H0 E) scope cl Nc fv) (hc : (cxOf (CXE P w) P w K mg base N qual scope0 f cd A outer s0 H0 E).calm = true) (hi : PI (cxOf (CXE P w) P w K mg base N qual scope0 f cd A outer s0 H0 E) tg iter wi)
    (hg : ∀ s₀ H₀ C ex pn, PG (blkE (cxOf (CXE P w) P w K mg base N qual scope0 f cd A outer s0 H0 E) E scope cl Nc s₀ H₀ C ex pn) tg g) (ht : ∀ s₀ H₀ C ex pn, PIf (blkE (cxOf (CXE P w) P w K mg base N qual scope0 f cd A outer s0 H0 E) E scope cl Nc s₀ H₀ C ex pn) ifs tt)
    (he : ∀ s₀ H₀ C ex pn, PE (blkE (cxOf (CXE P w) P w K mg base N qual scope0 f cd A outer s0 H0 E) E scope cl Nc s₀ H₀ C ex pn) elt te) (hs : ∀ x, foldedSetIterable iter (cxOf (CXE P w) P w K mg base N qual scope0 f cd A outer s0 H0 E).env x = pure x := by intro _; rfl) :
    PE (cxOf (CXE P w) P w K mg base N qual scope0 f cd A outer s0 H0 E) (.ListComp elt [⟨tg, iter, ifs, 0⟩] scope pos) (tComp fv wi g tt te) := by
  intro pins s σ H Q I h
  rw [eval_ListComp]
  refine wpAny_comprehension_free (use := none) rfl hs O.clos O.kind O.names (wpAny_mono (hi pins s σ H _ I h) (fun v s1 h1 => thn h1 fun itv s2 h2 => ?_) fun _ _ z => z)
  obtain ⟨it, fp, tn, J, H2, e, I2, T, st2, f2, q2⟩ := h2
  subst e
  refine comp_runE rfl (E0 := E) (RR := fun acc C => compPost (model P w) (cxOf (CXE P w) P w K mg base N qual scope0 f cd A outer s0 H0 E).A (cxOf (CXE P w) P w K mg base N qual scope0 f cd A outer s0 H0 E).xe none (EP (cxOf (CXE P w) P w K mg base N qual scope0 f cd A outer s0 H0 E) pins σ Q) acc C) O hc hg ht he I2 T st2 f2 q2 ?_ ?_
  · intro p C s' a T cls od H' J hp n1 n2 n3 n4 hC hC2 c1 c2 c3 c4 q
    exact xe_comp J hp n1 n2 n3 n4 hC hC2 c1 c2 c3 c4 q
  · intro p C s' H' I' q' c1 c2 c3 c4 c5 c6
    obtain ⟨m, hn⟩ := c2
    exact ⟨m, hn, fun h'' hs'' => ⟨.ref p, H', I'.turned (t' := s'.toks) (fun b o hb e => (hs''.2 b hb).trans e) c1 c3 (.inr c4) c5 c6, rfl, q'⟩⟩
end
end L2

set_option Elab.async false
set_option linter.all false
set_option maxRecDepth 100000
/-! texts: split of a join, figures, and how a bank's text is read -/
namespace Tx
open PySem PySem.StrLaws PySem.Builtin.Str PySem.NumText PySem.W PyProof.Rows
abbrev sgs (x : Str) : List Nat := x.cps.toList
theorem sgs_inj {x y : Str} (h : sgs x = sgs y) : x = y := Str.ext' (Array.toList_inj.mp h)
theorem sgs_append (x y : Str) : sgs (x ++ y) = sgs x ++ sgs y := by simp [sgs, Str.cps_append]
theorem sgs_len (x : Str) : (sgs x).length = x.length := by simp [sgs, Str.length]
theorem split_parts (x y : Str) : Txt.split x y = partsBetween x (occurrences x y 0 x.length (x.length + 1)) y.length := by
  unfold Txt.split
  split
  · rename_i h
    rw [PySem.W.occ_nil_of_no x y _ fun i hi => ?_, PySem.W.parts_nil]
    rcases Bool.or_eq_true_iff.mp h with h | h
    · have := of_decide_eq_true h; omega
    · cases e : subAt x y i
      · rfl
      · have := PySem.W.kind_le x y e; have := of_decide_eq_true h; omega
  · split
    · rename_i h; rw [List.isEmpty_iff.mp h, PySem.W.parts_nil]
    · rfl
theorem at_char {x y : Str} {c : Nat} {ys : List Nat} (hy : sgs y = c :: ys) {k : Nat} (h : At x y x.length k) : (sgs x)[k]? = some c := by
  have h2 := h.2
  rw [subAt_eq] at h2
  have e : ((sgs x).drop k).take y.length = sgs y := eq_of_beq h2
  have hl : y.length = ys.length + 1 := by rw [← sgs_len, hy]; rfl
  rw [hy, hl] at e
  have e2 := congrArg (fun l : List Nat => l[0]?) e
  simp only [List.getElem?_take_of_lt (Nat.succ_pos _), List.getElem?_drop, List.getElem?_cons_zero] at e2
  simpa using e2
theorem at_here {x y : Str} {k : Nat} {r : List Nat} (h : (sgs x).drop k = sgs y ++ r) (hk : k + y.length ≤ x.length) : At x y x.length k := by
  refine ⟨hk, ?_⟩
  rw [subAt_eq]
  show (((sgs x).drop k).take y.length == sgs y) = true
  rw [h, ← sgs_len, List.take_left]
  simp
theorem sub_take (x : Str) {a n : Nat} : sgs (strSub x a (a + n)) = ((sgs x).drop a).take n := by
  show (strSub x a (a + n)).cps.toList = _
  rw [strSub_toList]
  congr 1; omega
theorem parts_join {y : Str} {c : Nat} {ys : List Nat} (hy : sgs y = c :: ys) (x : Str) : ∀ (parts : List Str) (a f : Nat) (cuts : List Nat), parts ≠ [] → (∀ p ∈ parts, c ∉ sgs p) → (sgs x).drop a = sgs (Str.join y parts) → a ≤ x.length →
    ChainG x y x.length a cuts f → (∀ k, f ≤ k → ¬ At x y x.length k) → partsFrom x y.length a cuts = parts
  | [], _, _, _, h, _, _, _, _, _ => absurd rfl h
  | [p], a, f, cuts, _, hp, hd, ha, hG, hn => by
    have hd' : (sgs x).drop a = sgs p := hd
    cases cuts with
    | nil =>
      show [strSub x a x.length] = [p]
      congr 1
      apply sgs_inj
      have e : x.length = a + (x.length - a) := by omega
      rw [e, sub_take, hd', List.take_of_length_le]
      rw [← hd', List.length_drop, sgs_len]
      exact Nat.le_refl _
    | cons d r =>
      have h1 := at_char hy hG.2.1
      have h2 : ((sgs x).drop a)[d - a]? = some c := by rw [List.getElem?_drop, show a + (d - a) = d by have := hG.1; omega]; exact h1
      rw [hd'] at h2
      exact absurd (List.mem_of_getElem? h2) (hp p (by simp))
  | p :: q :: r, a, f, cuts, _, hp, hd, ha, hG, hn => by
    have hd' : (sgs x).drop a = sgs p ++ (sgs y ++ sgs (Str.join y (q :: r))) := by
      rw [hd]
      show sgs (p ++ y ++ Str.join y (q :: r)) = _
      rw [sgs_append, sgs_append, List.append_assoc]
    have hlen := congrArg List.length hd'
    rw [List.length_drop, sgs_len, List.length_append, List.length_append, sgs_len, sgs_len] at hlen
    have hAt : At x y x.length (a + p.length) := by
      refine at_here (r := sgs (Str.join y (q :: r))) ?_ (by omega)
      rw [← List.drop_drop, hd', ← sgs_len p, List.drop_left]
    cases cuts with
    | nil =>
      have e : f = a := hG
      exact absurd hAt (hn _ (by omega))
    | cons d rr =>
      obtain ⟨g1, g2, g3, g4⟩ := hG
      have le : d ≤ a + p.length := by
        rcases Nat.lt_or_ge (a + p.length) d with z | z
        · exact absurd hAt (g3 _ (by omega) z)
        · exact z
      have ed : d = a + p.length := by
        rcases Nat.lt_or_ge d (a + p.length) with z | z
        · have h1 := at_char hy g2
          have h2 : ((sgs x).drop a)[d - a]? = some c := by rw [List.getElem?_drop, show a + (d - a) = d by omega]; exact h1
          rw [hd', List.getElem?_append_left (by rw [sgs_len]; omega)] at h2
          exact absurd (List.mem_of_getElem? h2) (hp p (by simp))
        · omega
      subst ed
      show strSub x a (a + p.length) :: partsFrom x y.length (a + p.length + y.length) rr = p :: q :: r
      congr 1
      · apply sgs_inj
        rw [sub_take, hd', ← sgs_len p, List.take_left]
      · refine parts_join hy x (q :: r) _ f rr (by simp) (fun z hz => hp z (by simp [hz])) ?_ (by omega) g4 hn
        rw [← List.drop_drop, ← List.drop_drop, hd', ← sgs_len p, List.drop_left, ← sgs_len y, List.drop_left]
theorem split_join {y : Str} {c : Nat} {ys : List Nat} (hy : sgs y = c :: ys) {parts : List Str} (h0 : parts ≠ []) (hp : ∀ p ∈ parts, c ∉ sgs p) : Txt.split (Str.join y parts) y = parts := by
  rw [split_parts, partsBetween_eq]
  have hl : 1 ≤ y.length := by rw [← sgs_len, hy]; simp
  obtain ⟨f, hG, hn⟩ := occ_tight (Str.join y parts) y hl
  exact parts_join hy _ parts 0 f _ h0 hp (by simp) (Nat.zero_le _) hG hn
/-! figures -/
def dig (c : Nat) : Bool := decide (48 ≤ c) && decide (c ≤ 57)
/-- a long in figures -/
def isLong (x : Str) : Bool := decide (1 ≤ x.length) && decide (x.length ≤ 60) && (sgs x).all dig && (decide (x = ("0" : Str)) || decide ((sgs x)[0]? ≠ some 48))
def val (x : Str) : Int := ((PySem.NumText.digitsVal (sgs x) : Nat) : Int)
theorem dig_all {x : Str} (h : (sgs x).all dig = true) : PySem.NumText.AllDigits (sgs x) := fun c hc => by
  have := List.all_eq_true.mp h c hc
  unfold dig at this
  simpa using this
theorem long_val {x : Str} (h : isLong x = true) : PySem.intText? x = some (val x) ∧ x.length ≤ 60 ∧ 0 ≤ val x := by
  unfold isLong at h
  simp only [Bool.and_eq_true, decide_eq_true_eq] at h
  obtain ⟨⟨⟨h1, h2⟩, h3⟩, h4⟩ := h
  refine ⟨intText_digits (dig_all h3) (fun e => ?_) (by omega), h2, Int.natCast_nonneg _⟩
  have := sgs_len x
  rw [show sgs x = [] from e] at this
  simp at this; omega
/-- a part read: its ground and its long -/
def rdPart (x : Str) : Option Bk.Rw := match Txt.split x " " with
  | [g, l] => if isLong l = true then (if g = ("dry" : Str) then some (true, val l) else if g = ("wet" : Str) then some (false, val l) else none) else none
  | _ => none
/-- parts read: the rows ahead of the first that is none, and whether there is one -/
def rdAll : List Str → List Bk.Rw × Bool
  | [] => ([], true)
  | p :: r => match rdPart p with
    | none => ([], false)
    | some q => (q :: (rdAll r).1, (rdAll r).2)
def rdText (x : Str) : List Bk.Rw × Bool := if x = Str.empty then ([], true) else rdAll (Txt.split x ", ")
/-- a row written -/
def rowT (r : Bk.Rw) : Str := L2.gs r.1 ++ (" " : Str) ++ (toString r.2 : Str)
theorem num_sgs (m : Nat) : sgs (toString ((m : Nat) : Int) : Str) = (Nat.toDigits 10 m).map Char.toNat := PySem.W.KIN.signs_num m
theorem num_digs (m : Nat) : ∀ c ∈ sgs (toString ((m : Nat) : Int) : Str), 48 ≤ c ∧ c ≤ 57 := fun c hc => by
  rw [num_sgs] at hc
  obtain ⟨ch, hch, e⟩ := List.mem_map.mp hc
  rw [← e]
  exact digit_range (Nat.isDigit_of_mem_toDigits (by decide) (by decide) hch)
theorem num_val (m : Nat) : val (toString ((m : Nat) : Int) : Str) = m := by
  unfold val
  rw [num_sgs, PySem.W.KIN.val_back]
theorem num_len {m : Nat} (h : m < 10 ^ 60) : 1 ≤ (toString ((m : Nat) : Int) : Str).length ∧ (toString ((m : Nat) : Int) : Str).length ≤ 60 := by
  rw [← sgs_len, num_sgs, List.length_map]
  exact ⟨toDigits_len_ge 10 m, toDigits_len_pow (by decide) (by decide) h⟩
theorem num_head {m : Nat} (h : 0 < m) : (Nat.toDigits 10 m)[0]? ≠ some '0' := by
  induction m using Nat.strongRecOn with
  | _ m ih =>
    by_cases z : m < 10
    · rw [Nat.toDigits_of_lt_base z]
      have : ∀ d : Nat, d < 10 → 0 < d → ([Nat.digitChar d] : List Char)[0]? ≠ some '0' := by decide
      exact this m z h
    · have t : Nat.toDigits 10 (m / 10) ++ Nat.toDigits 10 (m % 10) = Nat.toDigits 10 (10 * (m / 10) + m % 10) := Nat.toDigits_append_toDigits (by decide) (by omega) (Nat.mod_lt m (by decide))
      rw [Nat.div_add_mod] at t
      rw [← t, List.getElem?_append_left (toDigits_len_ge 10 (m / 10))]
      exact ih (m / 10) (by omega) (by omega)
theorem num_long {m : Nat} (h : m < 10 ^ 60) : isLong (toString ((m : Nat) : Int) : Str) = true := by
  obtain ⟨l1, l2⟩ := num_len h
  unfold isLong
  simp only [Bool.and_eq_true, decide_eq_true_eq, Bool.or_eq_true]
  refine ⟨⟨⟨l1, l2⟩, List.all_eq_true.mpr fun c hc => ?_⟩, ?_⟩
  · have := num_digs m c hc
    unfold dig
    simpa using this
  · by_cases z : m = 0
    · subst z; exact .inl rfl
    · refine .inr ?_
      rw [num_sgs, List.getElem?_map]
      intro e
      obtain ⟨ch, h1, h2⟩ := Option.map_eq_some_iff.mp e
      have : ch = '0' := by
        apply Char.ext
        apply UInt32.toNat_inj.mp
        exact h2
      rw [this] at h1
      exact num_head (by omega) h1
/-! what is written is read -/
theorem gs_sgs (g : Bool) : ∀ c ∈ sgs (L2.gs g), 97 ≤ c ∧ c ≤ 122 := by cases g <;> decide +kernel
theorem gs_ne : L2.gs true = ("dry" : Str) ∧ L2.gs false = ("wet" : Str) ∧ ("wet" : Str) ≠ ("dry" : Str) := ⟨rfl, rfl, by decide +kernel⟩
theorem blank_sgs : sgs (" " : Str) = 32 :: [] := by decide +kernel
theorem comma_sgs : sgs (", " : Str) = 44 :: [32] := by decide +kernel
theorem nat_of {i : Int} (h : 0 ≤ i) : ∃ m : Nat, i = m := ⟨i.toNat, by omega⟩
theorem rd_row {r : Bk.Rw} (h0 : 0 ≤ r.2) (h1 : r.2 < 10 ^ 60) : rdPart (rowT r) = some r := by
  obtain ⟨g, i⟩ := r
  obtain ⟨m, rfl⟩ := nat_of h0
  have hm : m < 10 ^ 60 := by
    have : (m : Int) < 10 ^ 60 := h1
    exact_mod_cast this
  have e : rowT (g, ((m : Nat) : Int)) = Str.join " " [L2.gs g, (toString ((m : Nat) : Int) : Str)] := rfl
  have hs : Txt.split (rowT (g, ((m : Nat) : Int))) " " = [L2.gs g, (toString ((m : Nat) : Int) : Str)] := by
    rw [e]
    refine split_join blank_sgs (by simp) fun p hp => ?_
    rcases List.mem_cons.mp hp with z | z
    · rw [z]; intro hc; have := gs_sgs g 32 hc; omega
    · rw [List.mem_singleton.mp z]; intro hc; have := num_digs m 32 hc; omega
  unfold rdPart
  rw [hs]
  show (if isLong (toString ((m : Nat) : Int) : Str) = true then _ else none) = _
  rw [if_pos (num_long hm), num_val]
  cases g
  · rw [gs_ne.2.1, if_neg gs_ne.2.2, if_pos rfl]
  · rw [gs_ne.1, if_pos rfl]
theorem row_free {r : Bk.Rw} (h0 : 0 ≤ r.2) : 44 ∉ sgs (rowT r) := by
  obtain ⟨m, e⟩ := nat_of h0
  unfold rowT
  rw [sgs_append, sgs_append, e]
  intro h
  rcases List.mem_append.mp h with h | h
  · rcases List.mem_append.mp h with h | h
    · have := gs_sgs r.1 44 h; omega
    · rw [blank_sgs] at h; simp at h
  · have := num_digs m 44 h; omega
theorem rd_rows : ∀ {rs : List Bk.Rw}, (∀ r ∈ rs, 0 ≤ r.2 ∧ r.2 < 10 ^ 60) → rdAll (rs.map rowT) = (rs, true)
  | [], _ => rfl
  | r :: t, h => by
    have ih := rd_rows (rs := t) fun x hx => h x (by simp [hx])
    have e := rd_row (h r (by simp)).1 (h r (by simp)).2
    simp only [List.map_cons, rdAll, e, ih]
def bankT (rs : List Bk.Rw) : Str := Str.join ", " (rs.map rowT)
theorem rd_bank {rs : List Bk.Rw} (h : ∀ r ∈ rs, 0 ≤ r.2 ∧ r.2 < 10 ^ 60) : rdText (bankT rs) = (rs, true) := by
  cases rs with
  | nil => rfl
  | cons r t =>
    have hs : Txt.split (bankT (r :: t)) ", " = (r :: t).map rowT := split_join comma_sgs (by simp) fun p hp => by
      obtain ⟨q, hq, rfl⟩ := List.mem_map.mp hp
      exact row_free (h q hq).1
    have ne : bankT (r :: t) ≠ Str.empty := fun e => by
      have h1 := hs
      rw [e] at h1
      have h2 : Txt.split Str.empty ", " = [Str.empty] := by decide +kernel
      rw [h2] at h1
      have h3 : rowT r = Str.empty := by
        have := congrArg (fun l : List Str => l[0]?) h1
        simpa using this.symm
      have h4 := congrArg sgs h3
      unfold rowT at h4
      rw [sgs_append, sgs_append, blank_sgs] at h4
      have h5 : sgs Str.empty = [] := rfl
      rw [h5] at h4
      simp at h4
    unfold rdText
    rw [if_neg ne, hs]
    exact rd_rows h
end Tx

set_option Elab.async false
set_option linter.all false
set_option maxRecDepth 100000
namespace Q8
open PySem L2
def top (i : Nat) : Stmt := PySem.Challenge.pw_bankshare_k08_texts.main.body.getD i (.Pass ⟨0, 0, 0, 0⟩)
abbrev sGround : Stmt := top 12
abbrev sWhole : Stmt := top 13
abbrev sRefuse : Stmt := top 14
abbrev sTidy : Stmt := top 15
/-- the names of Python's own that the defs ask for -/
structure Py (mg : Str → Option Value) : Prop where
  isi : mg "isinstance" = none
  str : mg "str" = none
  int : mg "int" = none
  bool : mg "bool" = none
  list : mg "list" = none
  tuple : mg "tuple" = none
  len : mg "len" = none
  sum : mg "sum" = none
  max : mg "max" = none
  min : mg "min" = none
  range : mg "range" = none
  enum : mg "enumerate" = none
  verr : mg "ValueError" = none
  all : mg "all" = none
  dry : ∃ t, mg "DRY" = some (.str "dry" t)
  wet : ∃ t, mg "WET" = some (.str "wet" t)
theorem kit_str {K : PySem.W.Frag} : PySem.W.kitOne K (.type "str") (.type "str") = some true := rfl
theorem kit_int {K : PySem.W.Frag} : PySem.W.kitOne K (.type "int") (.type "int") = some true := rfl
theorem kit_int_bool {K : PySem.W.Frag} : PySem.W.kitOne K (.type "int") (.type "bool") = some false := by kernel_rfl
section
variable {P : Program} {w : World} {K : PySem.W.Frag} {mg : Str → Option Value} {base : Heap}
/-! is_ground: of a ground it is True -/
def spGround : Sp := fun vs H Q _ => ∃ g, vs = [.str (gs g)] ∧ ∀ H', Same H H' → Q (.bl true) H'
theorem scG : FnScope ["value"] ["value"] (defScope sGround) := ⟨rfl, rfl, rfl, by decide +kernel, rfl, by decide +kernel, by decide +kernel⟩
theorem ok_ground {f : Addr} {fd : FuncData} (F : FunG K "is_ground" "is_ground" sGround f fd .none) (T : Py mg) : FnOk P w K mg base CX0 1 f fd ["value"] spGround := by
  refine F.ok scG (fun vs H Q E h => ?_) (fun cdv A outer s H vs Q E hr h => ?_)
  · obtain ⟨g, rfl, _⟩ := h; rfl
  · obtain ⟨g, rfl, k⟩ := h
    obtain ⟨t1, d1⟩ := T.dry
    obtain ⟨t2, d2⟩ := T.wet
    refine ⟨_, pss_one (ps_ret (pe_and (pe_callB call_isi rfl T.isi PyProof.Rows.boot_isinstance (pa_cons (pv 0) (pa_cons (pe_bltn (v := .ty "str") rfl T.str PyProof.Rows.boot_str rfl) pa_nil)))
      (pe_one (pe_cmpR op_in_seq (pv 0) (pe_tup (pa_cons (pe_glob (v := .str "dry") rfl d1 ⟨_, rfl⟩) (pa_cons (pe_glob (v := .str "wet") rfl d2 ⟨_, rfl⟩) pa_nil))) (by with_unfolding_all rfl))))), ?_⟩
    refine ⟨_, rfl, _, _, _, rfl, .of (.str _), .inl ⟨rfl, true, kit_str, true, rfl, iteT ?_⟩⟩
    refine ⟨_, rfl, by show 2 ≤ sizeLine; decide, fun p hp => ⟨p, _, rfl, .inr (SqT.of upd_same), rfl, rfl, ?_⟩⟩
    have e : inV (.str (gs g)) [.str "dry", .str "wet"] = true := by cases g <;> decide +kernel
    show Q (.bl (inV (.str (gs g)) [.str "dry", .str "wet"])) _
    rw [e]
    exact k _ (same_new hp)
end
end Q8
set_option Elab.async false
set_option linter.all false
set_option maxRecDepth 100000
namespace Q8
open PySem L2
section
variable {P : Program} {w : World} {K : PySem.W.Frag} {mg : Str → Option Value} {base : Heap}
def spWhole : Sp := fun vs H Q _ => ∃ i, vs = [.int i] ∧ Q (.bl true) H
theorem scW : FnScope ["value"] ["value"] (defScope sWhole) := ⟨rfl, rfl, rfl, by decide +kernel, rfl, by decide +kernel, by decide +kernel⟩
theorem ok_whole {f : Addr} {fd : FuncData} (F : FunG K "is_whole" "is_whole" sWhole f fd .none) (T : Py mg) : FnOk P w K mg base CX0 1 f fd ["value"] spWhole := by
  refine F.ok scW (fun vs H Q E h => ?_) (fun cdv A outer s H vs Q E hr h => ?_)
  · obtain ⟨g, rfl, _⟩ := h; rfl
  · obtain ⟨i, rfl, k⟩ := h
    refine ⟨_, pss_one (ps_ret (pe_and (pe_callB call_isi rfl T.isi PyProof.Rows.boot_isinstance (pa_cons (pv 0) (pa_cons (pe_bltn (v := .ty "int") rfl T.int PyProof.Rows.boot_int rfl) pa_nil)))
      (pe_one (pe_not (pe_callB call_isi rfl T.isi PyProof.Rows.boot_isinstance (pa_cons (pv 0) (pa_cons (pe_bltn (v := .ty "bool") rfl T.bool PyProof.Rows.boot_bool rfl) pa_nil))))))), ?_⟩
    refine ⟨_, rfl, _, _, _, rfl, .of (.int _), .inl ⟨rfl, true, kit_int, true, rfl, iteT ?_⟩⟩
    exact ⟨_, rfl, _, _, _, rfl, .of (.int _), .inl ⟨rfl, false, kit_int_bool, false, rfl, k⟩⟩
/-! refuse_wrong_row: of a row as it should be nothing is refused -/
def spRefuse : Sp := fun vs H Q _ => ∃ v r pl, vs = [v, .int pl] ∧ RowAt H v r ∧ 0 ≤ r.2 ∧ ∀ H', Same H H' → Q .non H'
theorem scR : FnScope ["row", "place"] ["row", "place"] (defScope sRefuse) := ⟨rfl, rfl, rfl, by decide +kernel, rfl, by decide +kernel, by decide +kernel⟩
theorem ok_refuse {f f1 f2 : Addr} {fd fd1 fd2 : FuncData} (F : FunG K "refuse_wrong_row" "refuse_wrong_row" sRefuse f fd .none) (T : Py mg) (D1 : Df K mg "is_ground" sGround ["value"] f1 fd1) (D2 : Df K mg "is_whole" sWhole ["value"] f2 fd2) :
    FnOk P w K mg base CX0 2 f fd ["row", "place"] spRefuse := by
  have G1 : FnOk P w K mg base CX0 1 f1 fd1 ["value"] spGround := ok_ground D1.fn T
  have G2 : FnOk P w K mg base CX0 1 f2 fd2 ["value"] spWhole := ok_whole D2.fn T
  refine F.ok scR (fun vs H Q E h => ?_) (fun cdv A outer s H vs Q E hr h => ?_)
  · obtain ⟨v, r, pl, rfl, _⟩ := h; rfl
  · obtain ⟨v, r, pl, rfl, ⟨p, rfl, hp⟩, hr0, k⟩ := h
    refine ⟨_, pss_cons (ps_if (pt_not (pt_val (pe_call G1 hr rfl D1.gl D1.fn.kp D1.bd .nil pass0 (pa_cons (pe_ix ix_tup (pv 0) pe_int (fun _ _ => rfl)) pa_nil)))) pss_never pss_nil)
      (pss_one (ps_if (PW.pt (pw_or (pt_not (pt_val (pe_call G2 hr rfl D2.gl D2.fn.kp D2.bd .nil pass0 (pa_cons (pe_ix ix_tup (pv 0) pe_int (fun _ _ => rfl)) pa_nil))))
        (pw_or1 (pt_cmpR op_lt (pe_ix ix_tup (pv 0) pe_int (fun _ _ => rfl)) pe_int (nomark _))))) pss_never pss_nil)), ?_⟩
    refine ⟨_, rfl, p, _, 0, _, rfl, rfl, SqT.of hp, rfl, r.1, rfl, fun H1 s1 => ⟨true, rfl, iteF ?_⟩⟩
    have hp1 := s1 _ _ hp
    refine ⟨_, rfl, p, _, 1, _, rfl, rfl, SqT.of hp1, rfl, r.2, rfl, true, rfl, iteF ?_⟩
    refine ⟨_, rfl, p, _, 1, _, rfl, rfl, SqT.of hp1, rfl, _, _, rfl, rfl, _, rfl, ?_⟩
    refine ite2 (fun z => ?_) (fun _ => k H1 s1)
    have z' : r.2 < 0 := of_decide_eq_true z
    omega
end
end Q8
set_option Elab.async false
set_option linter.all false
set_option maxRecDepth 100000
namespace Q8
open PySem L2
theorem take_snoc {α : Type} {l : List α} {i : Nat} {x : α} (h : l[i]? = some x) : l.take (i + 1) = l.take i ++ [x] := by
  rw [List.take_add_one, h]; rfl
section
variable {P : Program} {w : World} {K : PySem.W.Frag} {mg : Str → Option Value} {base : Heap}
def spTidy (K : PySem.W.Frag) : Sp := fun vs H Q _ => ∃ a xs rs, vs = [.ref a] ∧ SqL K H a xs ∧ RowsAt H xs rs ∧ (∀ r ∈ rs, 0 ≤ r.2) ∧ rs.length ≤ 100000 ∧
  ∀ p ys H', Same H H' → H p = none → H' p = some (.lst ys) → RowsAt H' ys (Bk.tidy rs) → Q (.ref p) H'
theorem scT : FnScope ["rows", "bank", "place", "row", "ground", "long"] ["rows"] (defScope sTidy) := ⟨rfl, rfl, rfl, by decide +kernel, rfl, by decide +kernel, by decide +kernel⟩
theorem ok_tidy {f f1 f2 f3 : Addr} {fd fd1 fd2 fd3 : FuncData} (F : FunG K "tidy" "tidy" sTidy f fd .none) (T : Py mg) (D1 : Df K mg "is_ground" sGround ["value"] f1 fd1) (D2 : Df K mg "is_whole" sWhole ["value"] f2 fd2)
    (D3 : Df K mg "refuse_wrong_row" sRefuse ["row", "place"] f3 fd3) : FnOk P w K mg base CX0 3 f fd ["rows"] (spTidy K) := by
  have G3 : FnOk P w K mg base CX0 2 f3 fd3 ["row", "place"] spRefuse := ok_refuse D3.fn T D1 D2
  refine F.ok scT (fun vs H Q E h => ?_) (fun cdv A outer s H vs Q E hr h => ?_)
  · obtain ⟨v, r, pl, rfl, _⟩ := h; rfl
  · obtain ⟨a, xs, rs, rfl, hS, hR, h0, hl, k⟩ := h
    refine ⟨_, pss_cons (ps_set (i := 1) scT.nd rfl (Or.inl rfl) (pe_lst pa_nil))
      (pss_cons (ps_for PassesOwn.never rfl (pi_enum rfl T.enum (pa_cons (pv 0) pa_nil)) (pg_tup rfl (pgs_cons (pg_name (i := 2) scT.nd rfl (Or.inl rfl)) (pgs_cons (pg_name (i := 3) scT.nd rfl (Or.inl rfl)) pgs_nil)))
        (pss_cons (ps_expr (pe_call G3 hr rfl D3.gl D3.fn.kp D3.bd .nil pass0 (pa_cons (pv 3) (pa_cons (pv 2) pa_nil))))
        (pss_cons (ps_set (i := 4) scT.nd rfl (Or.inl rfl) (pe_ix ix_tup (pv 3) pe_int (fun _ _ => rfl)))
        (pss_cons (ps_set (i := 5) scT.nd rfl (Or.inl rfl) (pe_ix ix_tup (pv 3) pe_int (fun _ _ => rfl)))
        (pss_one (ps_if (PW.pt (pw_and (pt_cmpR op_gt (pe_callB call_len_seq rfl T.len PySem.boot_len (pa_cons (pv 1) pa_nil)) pe_int (nomark _))
            (pw_and1 (pt_cmpR op_eq (pe_ix ix_tup (pe_ix ix_list (pv 1) (pe_un un_neg pe_int) (fun _ _ => rfl)) pe_int (fun _ _ => rfl)) (pv 4) (nomark _)))))
          (pss_one (ps_asg (pe_tup (pa_cons (pv 4) (pa_cons (pe_op op_add (pe_ix ix_tup (pe_ix ix_list (pv 1) (pe_un un_neg pe_int) (fun _ _ => rfl)) pe_int (fun _ _ => rfl)) (pv 5)) pa_nil))) (pg_sub (pv 1) (pe_un un_neg pe_int) set_list)))
          (pss_one (ps_if (pt_cmpR op_gt (pv 5) pe_int (nomark _))
            (pss_one (ps_expr (pe_bm PySem.F.plainAttrs_list PySem.F.slot_list_append PySem.F.type_list_append mt_append (pv 1) (pa_cons (pe_tup (pa_cons (pv 4) (pa_cons (pv 5) pa_nil))) pa_nil)))) pss_nil))))))))
      (pss_one (ps_ret (pv 1)))), ?_⟩
    refine ⟨Nat.zero_le _, fun p hp => ?_⟩
    have hlen := Paired.length hR
    have hz : ∀ n : Nat, n ≤ 100001 → n ≤ sizeLine := fun n h => Nat.le_trans h (by decide)
    refine ⟨_, rfl, a, rfl, ⟨_, (same_new hp).seq hS⟩, for_enum (K := K) (a := a) (xs := xs) (fun i σ H2 => ∃ ys s2 s3 s4 s5, σ = [some (.ref a), some (.ref p), s2, s3, s4, s5] ∧ Same H H2 ∧ H2 p = some (.lst ys) ∧ RowsAt H2 ys (Bk.tidy (rs.take i)))
      ⟨[], none, none, none, none, rfl, same_new hp, upd_same, .nil⟩ (fun i σ H2 _ ⟨_, _, _, _, _, _, s2, _⟩ => s2.seq hS) ?_ ?_⟩
    · rintro i x σ H2 t hx ⟨ys, s2, s3, s4, s5, rfl, sm, hb, hy⟩ ht
      obtain ⟨r, hr1, hr2⟩ := hR.get hx
      have hri : 0 ≤ r.2 := h0 r (List.mem_of_getElem? hr1)
      refine ⟨t, _, rfl, SqT.of upd_same, rfl, _, _, rfl, _, _, rfl, rfl, ?_⟩
      have sm3 : Same H (upd H2 t (.tup [.int i, x])) := sm.trans (same_new ht)
      refine ⟨_, rfl, _, rfl, x, r, i, rfl, hr2.mono sm3.tps, hri, fun H4 s4' => ?_⟩
      have sm4 := sm3.trans s4'
      obtain ⟨q, rfl, hq⟩ := hr2.mono sm4.tps
      have hb4 : H4 p = some (.lst ys) := s4' _ _ (same_new ht _ _ hb)
      have hy4 : RowsAt H4 ys (Bk.tidy (rs.take i)) := hy.mono ((same_new ht).trans s4').tps
      refine ⟨_, rfl, q, _, 0, _, rfl, rfl, SqT.of hq, rfl, ?_⟩
      refine ⟨_, rfl, q, _, 1, _, rfl, rfl, SqT.of hq, rfl, ?_⟩
      refine ⟨_, rfl, p, ys, rfl, .inl (SqL.of hb4), _, _, rfl, rfl, _, rfl, ?_⟩
      have hlt : i < rs.length := (List.getElem?_eq_some_iff.mp hr1).1
      have ly : ys.length ≤ 100000 := by
        have h1 := Paired.length hy4
        have h2 := Bk.tidy_length (rs.take i)
        have h3 : (rs.take i).length ≤ i := by rw [List.length_take]; omega
        omega
      have tk : Bk.tidy (rs.take (i + 1)) = Bk.put (Bk.tidy (rs.take i)) r := by rw [take_snoc hr1, Bk.tidy_snoc]
      have app : Bk.tidy (rs.take (i + 1)) = Bk.tidy (rs.take i) ++ [r] → ∀ Z : Addr, H4 Z = none → ∃ ys' z2 z3 z4 z5, [some (V.ref a), some (.ref p), some (.int i), some (.ref q), some (.str (gs r.1)), some (.int r.2)] = [some (.ref a), some (.ref p), z2, z3, z4, z5] ∧ Same H (upd (upd H4 Z (.tup [.str (gs r.1), .int r.2])) p (.lst (ys ++ [.ref Z]))) ∧
          upd (upd H4 Z (.tup [.str (gs r.1), .int r.2])) p (.lst (ys ++ [.ref Z])) p = some (.lst ys') ∧ RowsAt (upd (upd H4 Z (.tup [.str (gs r.1), .int r.2])) p (.lst (ys ++ [.ref Z]))) ys' (Bk.tidy (rs.take (i + 1))) := fun e Z hZ => by
        have npZ : Z ≠ p := fun z => by rw [z, hb4] at hZ; cases hZ
        have tps : Tps H4 (upd (upd H4 Z (.tup [.str (gs r.1), .int r.2])) p (.lst (ys ++ [.ref Z]))) := fun b xs e => by
          rw [upd_ne (fun z => by rw [z, hb4] at e; cases e), upd_ne (ne_of_none e hZ)]; exact e
        refine ⟨ys ++ [.ref Z], _, _, _, _, rfl, (sm4.trans (same_new hZ)).write hp, upd_same, ?_⟩
        rw [e]
        exact (hy4.mono tps).snoc ⟨Z, rfl, by rw [upd_ne npZ, upd_same]⟩
      rcases Bk.snoc_cases (Bk.tidy (rs.take i)) with e0 | ⟨bi, b, e0⟩
      · rw [e0] at hy4
        cases hy4
        refine iteF ?_
        refine ⟨_, rfl, _, _, rfl, rfl, _, rfl, ?_⟩
        refine ite2 (fun z => ?_) (fun z => ?_)
        · have z' : 0 < r.2 := of_decide_eq_true z
          refine ⟨_, rfl, .inl ⟨rfl, _, SqL.of hb4⟩, _, rfl, _, rfl, by show 2 ≤ sizeLine; decide, fun Z hZ => ?_⟩
          have npZ : p ≠ Z := fun w => by rw [← w, hb4] at hZ; cases hZ
          refine ⟨p, [], _, rfl, rfl, by rw [upd_ne npZ]; exact hb4, by decide, ?_⟩
          exact app (by rw [tk, e0, Bk.put_nil, if_pos z']; rfl) Z hZ
        · have z' : ¬ 0 < r.2 := fun y => z (decide_eq_true y)
          exact ⟨[], _, _, _, _, rfl, sm4, hb4, by rw [tk, e0, Bk.put_nil, if_neg z']; exact .nil⟩
      · rw [e0] at hy4
        obtain ⟨ws, v, rfl, hws, ⟨qb, rfl, hqb⟩⟩ := hy4.split
        refine ite2 (fun _ => ?_) (fun z => absurd (decide_eq_true (show (0 : Int) < ((ws ++ [V.ref qb]).length : Int) by simp)) z)
        have la : atI (ws ++ [V.ref qb]) (-1) = some (.ref qb) := atI_last ws (.ref qb)
        refine ⟨_, rfl, _, rfl, p, _, -1, _, rfl, rfl, SqL.of hb4, la, qb, _, 0, _, rfl, rfl, SqT.of hqb, rfl, _, rfl, rfl, _, rfl, ?_⟩
        refine ite2 (fun z => ?_) (fun z => ?_)
        · have z1 : V.str (gs b.1) = V.str (gs r.1) := of_decide_eq_true z
          have z2 : b.1 = r.1 := gs_inj.mp (V.str.inj z1)
          refine ⟨_, rfl, _, rfl, _, rfl, p, _, -1, _, rfl, rfl, SqL.of hb4, la, qb, _, 1, _, rfl, rfl, SqT.of hqb, rfl, _, rfl, _, _, rfl, rfl, by show 2 ≤ sizeLine; decide, fun Z hZ => ?_⟩
          have npZ : p ≠ Z := fun w => by rw [← w, hb4] at hZ; cases hZ
          have ix : ixN (ws ++ [V.ref qb]).length (-1) = some ws.length := by
            unfold ixN
            rw [if_neg (by decide), if_pos (by simp; omega)]
            congr 1
            simp; omega
          refine ⟨_, rfl, _, rfl, p, _, -1, ws.length, rfl, rfl, by rw [upd_ne npZ]; exact hb4, ix, ?_⟩
          have tps : Tps H4 (upd (upd H4 Z (.tup [.str (gs r.1), .int (b.2 + r.2)])) p (.lst ((ws ++ [V.ref qb]).set ws.length (.ref Z)))) := fun b xs e => by
            rw [upd_ne (fun z => by rw [z, hb4] at e; cases e), upd_ne (ne_of_none e hZ)]; exact e
          refine ⟨ws ++ [.ref Z], _, _, _, _, rfl, (sm4.trans (same_new hZ)).write hp, ?_, ?_⟩
          · rw [upd_same]; simp
          · rw [tk, e0, Bk.put_snoc, if_pos z2]
            exact (hws.mono tps).snoc ⟨Z, rfl, by rw [upd_ne npZ.symm, upd_same]⟩
        · have z2 : ¬ b.1 = r.1 := fun y => z (decide_eq_true (by rw [y]))
          refine ⟨_, rfl, _, _, rfl, rfl, _, rfl, ?_⟩
          refine ite2 (fun y => ?_) (fun y => ?_)
          · have z' : 0 < r.2 := of_decide_eq_true y
            refine ⟨_, rfl, .inl ⟨rfl, _, SqL.of hb4⟩, _, rfl, _, rfl, by show 2 ≤ sizeLine; decide, fun Z hZ => ?_⟩
            have npZ : p ≠ Z := fun w => by rw [← w, hb4] at hZ; cases hZ
            refine ⟨p, _, _, rfl, rfl, by rw [upd_ne npZ]; exact hb4, Nat.lt_of_le_of_lt ly (by decide), ?_⟩
            exact app (by rw [tk, e0, Bk.put_snoc, if_neg z2, if_pos z']) Z hZ
          · have z' : ¬ 0 < r.2 := fun w => y (decide_eq_true w)
            exact ⟨_, _, _, _, _, rfl, sm4, hb4, by rw [tk, e0, Bk.put_snoc, if_neg z2, if_neg z']; exact hy4⟩
    · rintro σ H2 ⟨ys, s2, s3, s4, s5, rfl, sm, hb, hy⟩
      refine ⟨_, rfl, k p ys H2 sm hp hb ?_⟩
      rw [hlen, List.take_length] at hy
      exact hy
end
end Q8

set_option Elab.async false
set_option linter.all false
set_option maxRecDepth 100000
set_option maxHeartbeats 4000000
namespace Q8
open PySem L2
abbrev sInitX : Stmt := inClass (top 8) 0
abbrev sLongF : Stmt := top 21
abbrev sRP : Stmt := top 22
theorem logN {n : Nat} (h : n < 10 ^ 10) : ((n : Int)).natAbs.log2 < 1920 := by
  show n.log2 < 1920
  by_cases z : n = 0
  · subst z; decide
  · exact (Nat.log2_lt z).mpr (Nat.lt_trans h (by decide +kernel))
theorem lenN {n : Nat} (h : n < 10 ^ 10) : (Str.empty ++ ("no stretch in the part at " : Str) ++ (toString (n : Int) : Str)).length ≤ sizeLine := by
  have h1 := PySem.W.KT.len_num (n := (n : Int)) (by omega) (by exact_mod_cast h)
  rw [Str.length_append]
  have h2 : (Str.empty ++ ("no stretch in the part at " : Str)).length = 26 := by decide +kernel
  have h3 : (toString (n : Int) : Str).length ≤ 10 := h1
  rw [h2]
  exact Nat.le_trans (m := 36) (by omega) (by decide)
/-- what a text's ground is -/
def isGr (x : Str) : Bool := decide (x = ("dry" : Str)) || decide (x = ("wet" : Str))
/-- the refusal NoText, as the top has made it, and the names of texts.py -/
structure Rx (K : PySem.W.Frag) (mg : Str → Option Value) (aX aB iX : Addr) (dX : FuncData) : Prop where
  gl : mg "NoText" = some (.ref aX)
  glB : mg "BankError" = some (.ref aB)
  I : ExcI K aX aB iX
  na : NoAttr K aX "place"
  B : BaseC K aB
  F : FunG K "__init__" "NoText.__init__" sInitX iX dX .none
  b : Binds K dX ["self", "place"] []
  fig : ∃ t, mg "FIGURES" = some (.str "0123456789" t)
  most : ∃ t, mg "MOST_FIGURES" = some (.int 60 t)
  comma : ∃ t, mg "COMMA" = some (.str ", " t)
theorem figs (c : Nat) : (!(Builtin.Str.occurrences ("0123456789" : Str) (sg c) 0 ("0123456789" : Str).length 1).isEmpty) = Tx.dig c := by
  have h := StrLaws.found_one ("0123456789" : Str) c
  show (!(Builtin.Str.occurrences ("0123456789" : Str) ⟨#[c]⟩ 0 ("0123456789" : Str).length 1).isEmpty) = Tx.dig c
  rw [h]
  have e : ("0123456789" : Str).cps.toList = [48, 49, 50, 51, 52, 53, 54, 55, 56, 57] := by decide +kernel
  rw [e]
  unfold Tx.dig
  rw [Bool.eq_iff_iff]
  simp only [decide_eq_true_eq, Bool.and_eq_true, List.mem_cons, List.not_mem_nil, or_false]
  omega
section
variable {P : Program} {w : World} {K : PySem.W.Frag} {mg : Str → Option Value} {base : Heap}
seal L2.PSs L2.PS L2.PE L2.PA L2.PT L2.PW
/-! NoText.__init__ -/
def spInitX (K : PySem.W.Frag) : Sp := fun vs H Q _ => ∃ e C f aB, ∃ n : Nat, vs = [.ref e, .int n] ∧ H e = some (ExcN e C none) ∧ ExcI K C aB f ∧ NoAttr K C "place" ∧ n < 10 ^ 10 ∧
  ∀ dx, H dx = none → Q .non (upd (upd H dx (.xd [("place", .int n)])) e (ExcN e C (some dx)))
theorem scIX : FnScope ["self", "place"] ["self", "place"] (defScope sInitX) := ⟨rfl, rfl, rfl, by decide +kernel, rfl, by decide +kernel, by decide +kernel⟩
theorem ok_initX {f aB : Addr} {fd : FuncData} (F : FunG K "__init__" "NoText.__init__" sInitX f fd .none) (B : BaseC K aB) (gB : mg "BankError" = some (.ref aB)) : FnOk P w K mg base CX0 1 f fd ["self", "place"] (spInitX K) := by
  refine F.ok scIX (fun vs H Q E h => ?_) (fun cdv A outer s H vs Q E hr h => ?_)
  · obtain ⟨_, _, _, _, _, rfl, _⟩ := h; rfl
  · obtain ⟨e, C, f', aB', n, rfl, he, c, na, hn, k⟩ := h
    refine ⟨_, pss_cons (ps_expr (pe_binit B rfl gB (pa_cons (pv 0) (pa_cons (pe_fmt (pv 1)) pa_nil)))) (pss_one (ps_exset (pv 0) (pv 1))), ?_⟩
    refine ⟨_, rfl, _, rfl, _, rfl, logN hn, lenN hn, e, _, C, none, f', aB', rfl, he, c, ?_⟩
    exact ⟨_, rfl, _, rfl, e, C, f', aB', rfl, he, c, na, k⟩
/-! is_ground, of any text -/
def spGroundS : Sp := fun vs H Q _ => ∃ x, vs = [.str x] ∧ ∀ H', Same H H' → Q (.bl (isGr x)) H'
theorem inGr (x : Str) : inV (.str x) [.str "dry", .str "wet"] = isGr x := by
  have e1 : inV (.str x) [.str "dry", .str "wet"] = (eqV (.str "dry") (.str x) || (eqV (.str "wet") (.str x) || false)) := rfl
  rw [e1, Bool.or_false]
  unfold isGr
  have e2 : ∀ y : Str, eqV (.str y) (.str x) = decide (x = y) := fun y => by
    show (y == x) = decide (x = y)
    by_cases h : x = y
    · subst h; rw [decide_eq_true rfl]; exact beq_self_eq_true x
    · rw [decide_eq_false h]; exact beq_eq_false_iff_ne.mpr (Ne.symm h)
  rw [e2, e2]
theorem ok_groundS {f : Addr} {fd : FuncData} (F : FunG K "is_ground" "is_ground" sGround f fd .none) (T : Py mg) : FnOk P w K mg base CX0 1 f fd ["value"] spGroundS := by
  refine F.ok scG (fun vs H Q E h => ?_) (fun cdv A outer s H vs Q E hr h => ?_)
  · obtain ⟨g, rfl, _⟩ := h; rfl
  · obtain ⟨x, rfl, k⟩ := h
    obtain ⟨t1, d1⟩ := T.dry
    obtain ⟨t2, d2⟩ := T.wet
    refine ⟨_, pss_one (ps_ret (pe_and (pe_callB call_isi rfl T.isi PyProof.Rows.boot_isinstance (pa_cons (pv 0) (pa_cons (pe_bltn (v := .ty "str") rfl T.str PyProof.Rows.boot_str rfl) pa_nil)))
      (pe_one (pe_cmpR op_in_seq (pv 0) (pe_tup (pa_cons (pe_glob (v := .str "dry") rfl d1 ⟨_, rfl⟩) (pa_cons (pe_glob (v := .str "wet") rfl d2 ⟨_, rfl⟩) pa_nil))) (by with_unfolding_all rfl))))), ?_⟩
    refine ⟨_, rfl, _, _, _, rfl, .of (.str _), .inl ⟨rfl, true, kit_str, true, rfl, iteT ?_⟩⟩
    refine ⟨_, rfl, by show 2 ≤ sizeLine; decide, fun p hp => ⟨p, _, rfl, .inr (SqT.of upd_same), rfl, rfl, ?_⟩⟩
    show Q (.bl (inV (.str x) [.str "dry", .str "wet"])) _
    rw [inGr]
    exact k _ (same_new hp)
/-! is_long -/
def spLongF : Sp := fun vs H Q _ => ∃ x : Str, vs = [.str x] ∧ x.length ≤ 1000000 ∧ ∀ H', Same H H' → Q (.bl (Tx.isLong x)) H'
theorem scLo : FnScope ["text"] ["text"] (defScope sLongF) := ⟨rfl, rfl, rfl, by decide +kernel, rfl, by decide +kernel, by decide +kernel⟩
theorem ok_longF {f aX aB iX : Addr} {fd dX : FuncData} (F : FunG K "is_long" "is_long" sLongF f fd .none) (T : Py mg) (R : Rx K mg aX aB iX dX) : FnOk P w K mg base CX0 1 f fd ["text"] spLongF := by
  refine F.ok scLo (fun vs H Q E h => ?_) (fun cdv A outer s H vs Q E hr h => ?_)
  · obtain ⟨g, rfl, _⟩ := h; rfl
  · obtain ⟨x, rfl, hl, k⟩ := h
    obtain ⟨t1, d1⟩ := R.fig
    obtain ⟨t2, d2⟩ := R.most
    refine ⟨_, pss_cons (ps_if (PW.pt (pw_or (pt_cmpR op_lt (pe_callB call_len_str rfl T.len PySem.boot_len (pa_cons (pv 0) pa_nil)) pe_int (nomark _)) (pw_or1 (pt_cmpR op_gt (pe_callB call_len_str rfl T.len PySem.boot_len (pa_cons (pv 0) pa_nil)) (pe_glob (v := .int 60) rfl d2 ⟨_, rfl⟩) (nomark _))))) (pss_one (ps_ret pe_bl)) pss_nil)
      (pss_cons (ps_if (pt_not (pt_val (pe_callB (call_all rfl) rfl T.all PyProof.Rows.boot_all (pa_cons (pe_comp (Nc := ["sign"]) (fv := [none]) ⟨rfl, by decide +kernel, rfl, by decide +kernel, trivial, by decide +kernel, rfl, trivial⟩ rfl (pi_str (pv 0))
          (fun _ _ _ _ _ => pg_name (i := 0) (show (["sign"] : List Str).Nodup by decide +kernel) rfl (Or.inl rfl)) (fun _ _ _ _ _ => pif_nil)
          (fun _ _ _ _ _ => pe_cmpR op_in_str (pv 0) (pe_glob (v := .str "0123456789") rfl d1 ⟨_, rfl⟩) (by with_unfolding_all rfl))) pa_nil)))) (pss_one (ps_ret pe_bl)) pss_nil)
      (pss_one (ps_ret (pe_or (pe_cmpR op_eq (pv 0) pe_str (nomark _)) (pe_one (pe_cmpR op_ne (pe_ix ix_str (pv 0) pe_int (fun _ _ => rfl)) pe_str (nomark _))))))), ?_⟩
    have hsz : x.length ≤ sizeLine := Nat.le_trans hl (by decide)
    have fal : (¬ 1 ≤ x.length ∨ ¬ x.length ≤ 60 ∨ (Tx.sgs x).all Tx.dig = false) → Tx.isLong x = false := fun h => by
      unfold Tx.isLong
      rcases h with h | h | h
      · rw [decide_eq_false h]; rfl
      · rw [decide_eq_false h, Bool.and_false]; rfl
      · rw [h, Bool.and_false]; rfl
    refine ⟨_, rfl, x, rfl, hsz, _, _, rfl, rfl, _, rfl, ?_⟩
    refine ite2 (fun z => ?_) (fun z1 => ?_)
    · have z' : (x.length : Int) < 1 := of_decide_eq_true z
      have := k H (.refl H)
      rw [fal (.inl (by omega))] at this
      exact this
    refine ⟨_, rfl, x, rfl, hsz, _, _, rfl, rfl, _, rfl, ?_⟩
    refine ite2 (fun z => ?_) (fun z2 => ?_)
    · have z' : (60 : Int) < (x.length : Int) := of_decide_eq_true z
      have := k H (.refl H)
      rw [fal (.inr (.inl (by omega)))] at this
      exact this
    have l1 : 1 ≤ x.length := by
      have : ¬ (x.length : Int) < 1 := fun y => z1 (decide_eq_true y)
      omega
    have l2 : x.length ≤ 60 := by
      have : ¬ (60 : Int) < (x.length : Int) := fun y => z2 (decide_eq_true y)
      omega
    refine ⟨_, rfl, x, rfl, fun p hp => ?_⟩
    refine comp_str (x := x) (fun i ys H2 => Same H H2 ∧ H2 p = some (.lst ys) ∧ ys = (((Tx.sgs x).take i).map Tx.dig).map V.bl) ⟨same_new hp, upd_same, rfl⟩ (fun i ys H2 h => h.2.1) ?_ ?_
    · rintro i c ys H2 hi hc ⟨sm, hy, rfl⟩
      refine ⟨(Wk.refl _).set rfl, yes ?_⟩
      have hc' : (Tx.sgs x)[i]? = some c := by rw [← hc]; exact Array.getElem?_toList
      refine ⟨_, rfl, _, _, rfl, rfl, hy, ?_, nx hi ⟨sm.write hp, upd_same, ?_⟩⟩
      · refine Nat.lt_of_le_of_lt (m := 1000) ?_ (by decide)
        have := Tx.sgs_len x
        simp only [List.length_map, List.length_take]; omega
      · rw [figs, take_snoc hc']; simp
    rintro ys H2 ⟨sm, hy, rfl⟩
    have el : (Tx.sgs x).take x.cps.size = Tx.sgs x := List.take_of_length_le (by show x.cps.toList.length ≤ _; simp)
    rw [el] at hy
    refine ⟨p, _, rfl, SqL.of hy, ?_⟩
    have ea : ((Tx.sgs x).map Tx.dig).all id = (Tx.sgs x).all Tx.dig := by rw [List.all_map]; rfl
    rw [ea]
    cases ed : (Tx.sgs x).all Tx.dig with
    | false =>
      refine ⟨_, rfl, iteT ?_⟩
      have := k H2 sm
      rw [fal (.inr (.inr ed))] at this
      exact this
    | true =>
      refine ⟨_, rfl, iteF ?_⟩
      refine ⟨_, rfl, rfl, _, rfl, ?_⟩
      have fin : ∀ b : Bool, b = (decide (x = ("0" : Str)) || decide ((Tx.sgs x)[0]? ≠ some 48)) → Q (.bl b) H2 := fun b hb => by
        have := k H2 sm
        have e : Tx.isLong x = b := by
          unfold Tx.isLong
          rw [decide_eq_true l1, decide_eq_true l2, ed, hb]; rfl
        rw [e] at this
        exact this
      refine ite2 (fun z => ?_) (fun z => ?_)
      · have e0 : x = ("0" : Str) := V.str.inj (of_decide_eq_true z)
        exact fin true (by rw [decide_eq_true e0]; rfl)
      · have nz : ¬ x = ("0" : Str) := fun y => z (decide_eq_true (by rw [y]))
        obtain ⟨c, hc⟩ : ∃ c, (Tx.sgs x)[0]? = some c := by
          have hl0 := Tx.sgs_len x
          cases e1 : Tx.sgs x with
          | nil => rw [e1] at hl0; simp at hl0; omega
          | cons a r => exact ⟨a, rfl⟩
        refine ⟨_, rfl, x, 0, c, rfl, rfl, hsz, ?_, rfl, ?_⟩
        · exact atI_nat (j := 0) hc
        · refine fin _ ?_
          rw [decide_eq_false nz, Bool.false_or, hc]
          have e0 : ("0" : Str) = ⟨#[48]⟩ := by decide +kernel
          by_cases y : c = 48
          · subst y
            rw [decide_eq_true (show V.str ⟨#[48]⟩ = V.str "0" by rw [e0]), decide_eq_false (by simp)]; rfl
          · rw [decide_eq_false (show ¬ V.str ⟨#[c]⟩ = V.str "0" from fun w => by
              rw [e0] at w
              have := congrArg (fun s : Str => s.cps.toList) (V.str.inj w)
              simp at this; exact y this), decide_eq_true (by simpa using y)]; rfl
/-! read_part -/
def spRP (K : PySem.W.Frag) (aX : Addr) : Sp := fun vs H Q E => ∃ (x : Str) (n : Nat), vs = [.str x, .int n] ∧ n < 10 ^ 10 ∧ x.length ≤ 1000000 ∧
  (∀ r, Tx.rdPart x = some r → ∀ p H', Same H H' → H p = none → H' p = some (.tup [.str (gs r.1), .int r.2]) → Q (.ref p) H') ∧
  (Tx.rdPart x = none → ∀ H' dx, Same H H' → H dx = none → H' dx = some (.xd [("place", .int n)]) → E (.ref aX) (some dx) H')
theorem raised {H1 : Hp} {e dx : Addr} {o1 o2 o3 : HO} (he : H1 e = none) (hd : upd H1 e o1 dx = none) : Same H1 (rem (upd (upd (upd H1 e o1) dx o2) e o3) e) ∧ H1 dx = none ∧ rem (upd (upd (upd H1 e o1) dx o2) e o3) e dx = some o2 := by
  have ne : dx ≠ e := fun z => by rw [z, upd_same] at hd; cases hd
  have h1 : H1 dx = none := by rw [upd_ne ne] at hd; exact hd
  refine ⟨fun b o q => ?_, h1, ?_⟩
  · have n1 := ne_of_none q he
    have n2 := ne_of_none q h1
    rw [rem_ne n1, upd_ne n1, upd_ne n2, upd_ne n1]; exact q
  · rw [rem_ne ne, upd_ne ne, upd_same]
theorem scRP : FnScope ["text", "place", "words"] ["text", "place"] (defScope sRP) := ⟨rfl, rfl, rfl, by decide +kernel, rfl, by decide +kernel, by decide +kernel⟩
theorem ok_rp {f f1 f2 aX aB iX : Addr} {fd fd1 fd2 dX : FuncData} (F : FunG K "read_part" "read_part" sRP f fd .none) (T : Py mg) (R : Rx K mg aX aB iX dX) (D1 : Df K mg "is_ground" sGround ["value"] f1 fd1) (D2 : Df K mg "is_long" sLongF ["text"] f2 fd2) :
    FnOk P w K mg base (CXE P w) 3 f fd ["text", "place"] (spRP K aX) := by
  have G1 : FnOk P w K mg base CX0 1 f1 fd1 ["value"] spGroundS := ok_groundS D1.fn T
  have G2 : FnOk P w K mg base CX0 1 f2 fd2 ["text"] spLongF := ok_longF D2.fn T R
  have GI : FnOk P w K mg base CX0 1 iX dX ["self", "place"] (spInitX K) := ok_initX R.F R.B R.glB
  refine F.okE scRP (fun vs H Q E h => ?_) (fun cdv A outer s H vs Q E hr h => ?_)
  · obtain ⟨_, _, rfl, _⟩ := h; rfl
  · obtain ⟨x, n, rfl, hn, hl, kQ, kE⟩ := h
    have r1 : Room 1 (A.deeper (PyProof.Rows.envOfC "read_part" (defScope sRP) s.heap.objs.size f cdv)) := hr.mono (by decide)
    refine ⟨_, pss_cons (ps_set (i := 2) scRP.nd rfl (Or.inl rfl) (pe_bm PySem.F.plainAttrs_str PySem.F.slot_str_split PySem.F.type_str_split mt_split (pv 0) (pa_cons pe_str pa_nil)))
      (pss_cons (ps_if (PW.pt (pw_or (pt_cmpR op_ne (pe_callB call_len_seq rfl T.len PySem.boot_len (pa_cons (pv 2) pa_nil)) pe_int (nomark _))
          (pw_or (pt_not (pt_val (pe_call G1 r1 rfl D1.gl D1.fn.kp D1.bd .nil pass0 (pa_cons (pe_ix ix_list (pv 2) pe_int (fun _ _ => rfl)) pa_nil))))
          (pw_or1 (pt_not (pt_val (pe_call G2 r1 rfl D2.gl D2.fn.kp D2.bd .nil pass0 (pa_cons (pe_ix ix_list (pv 2) pe_int (fun _ _ => rfl)) pa_nil))))))))
        (pss_one (ps_raiseI raises_of rfl R.I GI hr R.b rfl R.gl (pa_cons (pv 1) pa_nil))) pss_nil)
      (pss_one (ps_ret (pe_tup (pa_cons (pe_ix ix_list (pv 2) pe_int (fun _ _ => rfl)) (pa_cons (pe_callTy call_intS rfl T.int PyProof.Rows.boot_int (pa_cons (pe_ix ix_list (pv 2) pe_int (fun _ _ => rfl)) pa_nil)) pa_nil)))))), ?_⟩
    have hsl : (" " : Str).length = 1 := by decide +kernel
    have wle := PyProof.Rows.split_le x (" " : Str)
    refine ⟨_, rfl, rfl, x, " ", rfl, rfl, by decide +kernel, Nat.le_trans (Nat.add_le_add_right hl 2) (by decide), fun pw hpw => ?_⟩
    have s1 := same_new (o := .lst ((Txt.split x " ").map V.str)) hpw
    have hw : upd H pw (.lst ((Txt.split x " ").map V.str)) pw = some (.lst ((Txt.split x " ").map V.str)) := upd_same
    generalize upd H pw (.lst ((Txt.split x " ").map V.str)) = H1 at s1 hw ⊢
    have bad : Tx.rdPart x = none → ∀ H2, Same H H2 → tRaiseI E aX (spInitX K) (tCons (tVar 1) tNil) { nx := fun _ H' => Q .non H', rt := Q } [some (.str x), some (.int n), some (.ref pw)] H2 := fun hb H2 s2 => by
      refine ⟨_, rfl, by show 1 ≤ sizeLine; decide, fun e he => ?_⟩
      refine ⟨e, aX, iX, aB, n, rfl, upd_same, R.I, R.na, hn, fun dx hd => ⟨rfl, some dx, upd_same, ?_⟩⟩
      obtain ⟨z1, z2, z3⟩ := raised (o2 := .xd [("place", .int n)]) (o3 := ExcN e aX (some dx)) he hd
      exact kE hb _ dx (s2.trans z1) (s2.free z2) z3
    by_cases h2 : ∃ g l, Txt.split x " " = [g, l]
    case neg =>
      have hb : Tx.rdPart x = none := by
        unfold Tx.rdPart
        split
        · rename_i g l e; exact absurd ⟨g, l, e⟩ h2
        · rfl
      have hlen : (Txt.split x " ").length ≠ 2 := fun e => h2 (by
        match hq : Txt.split x " ", e with
        | [g, l], _ => exact ⟨g, l, rfl⟩)
      refine ⟨_, rfl, pw, _, rfl, .inl (SqL.of hw), rfl, true, ?_, iteT (bad hb H1 s1)⟩
      rw [List.length_map]
      have : ¬ V.int ((Txt.split x " ").length : Int) = V.int 2 := fun e => hlen (by have := V.int.inj e; omega)
      rw [decide_eq_false this]; rfl
    obtain ⟨g, l, e2⟩ := h2
    have hrd : Tx.rdPart x = if Tx.isLong l = true then (if g = ("dry" : Str) then some (true, Tx.val l) else if g = ("wet" : Str) then some (false, Tx.val l) else none) else none := by
      unfold Tx.rdPart; rw [e2]
    rw [e2] at hw
    have hw : H1 pw = some (.lst [.str g, .str l]) := hw
    have ll : l.length ≤ 1000000 := Nat.le_trans (PyProof.Rows.part_short (x := x) (y := " ") (a := l) (by rw [e2]; simp)) hl
    refine ⟨_, rfl, pw, _, rfl, .inl (SqL.of hw), rfl, false, rfl, iteF ?_⟩
    refine ⟨_, rfl, pw, _, 0, _, rfl, rfl, SqL.of hw, rfl, g, rfl, fun H2 s2 => ⟨isGr g, rfl, ?_⟩⟩
    have s12 := s1.trans s2
    have hw2 := s2 _ _ hw
    cases eg : isGr g with
    | false =>
      have hb : Tx.rdPart x = none := by
        rw [hrd]
        unfold isGr at eg
        simp only [Bool.or_eq_false_iff, decide_eq_false_iff_not] at eg
        rw [if_neg eg.1, if_neg eg.2]; simp
      exact iteT (bad hb H2 s12)
    | true =>
      refine iteF ?_
      refine ⟨_, rfl, pw, _, 1, _, rfl, rfl, SqL.of hw2, rfl, l, rfl, ll, fun H3 s3 => ⟨Tx.isLong l, rfl, ?_⟩⟩
      have s13 := s12.trans s3
      have hw3 := s3 _ _ hw2
      cases el : Tx.isLong l with
      | false =>
        have hb : Tx.rdPart x = none := by rw [hrd, el]; rfl
        exact iteT (bad hb H3 s13)
      | true =>
        refine iteF ?_
        obtain ⟨v1, v2, v3⟩ := Tx.long_val el
        refine ⟨_, rfl, pw, _, 0, _, rfl, rfl, SqL.of hw3, rfl, _, rfl, pw, _, 1, _, rfl, rfl, SqL.of hw3, rfl, l, _, rfl, Nat.le_trans v2 (by decide), v1, by show 2 ≤ sizeLine; decide, fun p hp => ?_⟩
        have hg : ∃ b : Bool, g = gs b ∧ Tx.rdPart x = some (b, Tx.val l) := by
          unfold isGr at eg
          simp only [Bool.or_eq_true, decide_eq_true_eq] at eg
          rcases eg with z | z
          · exact ⟨true, z, by rw [hrd, el, if_pos rfl, if_pos z]⟩
          · refine ⟨false, z, ?_⟩
            rw [hrd, el, if_pos rfl, if_neg (by rw [z]; exact Tx.gs_ne.2.2), if_pos z]
        obtain ⟨b, rfl, hr2⟩ := hg
        exact kQ _ hr2 p _ (s13.trans (same_new hp)) (s13.free hp) upd_same
end
end Q8

set_option Elab.async false
set_option linter.all false
set_option maxRecDepth 100000
set_option maxHeartbeats 4000000
namespace Q8
open PySem L2
abbrev sRead : Stmt := top 23
/-- a thing that is no text, and its kind -/
def NonS (H : Hp) (v : V) : Prop := (∃ i, v = .int i) ∨ v = .non ∨ (∃ b, v = .bl b) ∨ (∃ p xs, v = .ref p ∧ H p = some (.lst xs)) ∨ (∃ p xs, v = .ref p ∧ H p = some (.tup xs))
section
variable {K : PySem.W.Frag}
theorem kit_int_str : PySem.W.kitOne K (.type "int") (.type "str") = some false := by kernel_rfl
theorem kit_bool_str : PySem.W.kitOne K (.type "bool") (.type "str") = some false := by kernel_rfl
theorem kit_none_str : PySem.W.kitOne K (.type "NoneType") (.type "str") = some false := by kernel_rfl
theorem kit_list_str : PySem.W.kitOne K (.type "list") (.type "str") = some false := by kernel_rfl
theorem kit_tup_str : PySem.W.kitOne K (.type "tuple") (.type "str") = some false := by kernel_rfl
theorem nonS_ty {H : Hp} {v : V} (h : NonS H v) : ∃ t, TyX K H v t ∧ PySem.W.kitOne K t (.type "str") = some false := by
  rcases h with ⟨i, rfl⟩ | rfl | ⟨b, rfl⟩ | ⟨p, xs, rfl, e⟩ | ⟨p, xs, rfl, e⟩
  · exact ⟨_, .of (.int _), kit_int_str⟩
  · exact ⟨_, .of .non, kit_none_str⟩
  · exact ⟨_, .of (.bl _), kit_bool_str⟩
  · exact ⟨_, .of (.lst e), kit_list_str⟩
  · exact ⟨_, .of (.tup e), kit_tup_str⟩
end
theorem rdAll_snoc : ∀ (ps : List Str) (i : Nat) (p : Str), ps[i]? = some p → (∀ j q, j < i → ps[j]? = some q → Tx.rdPart q ≠ none) → Tx.rdPart p = none → (Tx.rdAll ps).2 = false ∧ (Tx.rdAll ps).1.length = i
  | [], i, p, h, _, _ => by simp at h
  | q :: t, 0, p, h, _, hb => by
    have e : q = p := by simpa using h
    subst e
    simp [Tx.rdAll, hb]
  | q :: t, i + 1, p, h, hk, hb => by
    have ih := rdAll_snoc t i p (by simpa using h) (fun j r hj hr => hk (j + 1) r (by omega) (by simpa using hr)) hb
    cases e : Tx.rdPart q with
    | none => exact absurd e (hk 0 q (by omega) rfl)
    | some r => simp only [Tx.rdAll, e]; exact ⟨ih.1, by simp [ih.2]⟩
theorem rdAll_good : ∀ (ps : List Str) (rs : List Bk.Rw), ps.length = rs.length → (∀ (i : Nat) p, ps[i]? = some p → Tx.rdPart p = rs[i]?) → Tx.rdAll ps = (rs, true)
  | [], [], _, _ => rfl
  | [], _ :: _, h, _ => by simp at h
  | _ :: _, [], h, _ => by simp at h
  | p :: t, r :: u, h, k => by
    have ih := rdAll_good t u (by simpa using h) fun i q hq => by simpa using k (i + 1) q (by simpa using hq)
    have e := k 0 p rfl
    have e : Tx.rdPart p = some r := by simpa using e
    simp only [Tx.rdAll, e, ih]
section
variable {P : Program} {w : World} {K : PySem.W.Frag} {mg : Str → Option Value} {base : Heap}
seal L2.PSs L2.PS L2.PE L2.PA L2.PT L2.PW
def spRead (K : PySem.W.Frag) (aX : Addr) : Sp := fun vs H Q E => ∃ v, vs = [v] ∧
  ((∃ x : Str, v = .str x ∧ x.length ≤ 50000 ∧
      ((Tx.rdText x).2 = true → ∀ p ys H', Same H H' → H p = none → H' p = some (.lst ys) → RowsAt H' ys (Bk.tidy (Tx.rdText x).1) → Q (.ref p) H') ∧
      ((Tx.rdText x).2 = false → ∀ H' dx, Same H H' → H dx = none → H' dx = some (.xd [("place", .int (Tx.rdText x).1.length)]) → E (.ref aX) (some dx) H')) ∨
   (NonS H v ∧ ∀ H' dx, Same H H' → H dx = none → H' dx = some (.xd [("place", .int 0)]) → E (.ref aX) (some dx) H'))
theorem scRd : FnScope ["text"] ["text"] (defScope sRead) := ⟨rfl, rfl, rfl, by decide +kernel, rfl, by decide +kernel, by decide +kernel⟩
theorem ok_read {f f0 f1 f2 f3 f4 f5 aX aB iX : Addr} {fd fd0 fd1 fd2 fd3 fd4 fd5 dX : FuncData} (F : FunG K "read" "read" sRead f fd .none) (T : Py mg) (R : Rx K mg aX aB iX dX) (D0 : Df K mg "is_ground" sGround ["value"] f0 fd0) (D1 : Df K mg "is_whole" sWhole ["value"] f1 fd1)
    (D2 : Df K mg "refuse_wrong_row" sRefuse ["row", "place"] f2 fd2) (D3 : Df K mg "tidy" sTidy ["rows"] f3 fd3) (D4 : Df K mg "is_long" sLongF ["text"] f4 fd4) (D5 : Df K mg "read_part" sRP ["text", "place"] f5 fd5) :
    FnOk P w K mg base (CXE P w) 4 f fd ["text"] (spRead K aX) := by
  have G3 : FnOk P w K mg base CX0 3 f3 fd3 ["rows"] (spTidy K) := ok_tidy D3.fn T D0 D1 D2
  have G5 : FnOk P w K mg base (CXE P w) 3 f5 fd5 ["text", "place"] (spRP K aX) := ok_rp D5.fn T R D0 D4
  have GI : FnOk P w K mg base CX0 1 iX dX ["self", "place"] (spInitX K) := ok_initX R.F R.B R.glB
  refine F.okE scRd (fun vs H Q E h => ?_) (fun cdv A outer s H vs Q E hr h => ?_)
  · obtain ⟨_, rfl, _⟩ := h; rfl
  · obtain ⟨v, rfl, h⟩ := h
    obtain ⟨t1, d1⟩ := R.comma
    have r2 : Room 2 (A.deeper (PyProof.Rows.envOfC "read" (defScope sRead) s.heap.objs.size f cdv)) := hr.mono (by decide)
    refine ⟨_, pss_cons (ps_if (pt_not (pt_val (pe_callB call_isi rfl T.isi PyProof.Rows.boot_isinstance (pa_cons (pv 0) (pa_cons (pe_bltn (v := .ty "str") rfl T.str PyProof.Rows.boot_str rfl) pa_nil))))) (pss_one (ps_raiseI raises_of rfl R.I GI r2 R.b rfl R.gl (pa_cons pe_int pa_nil))) pss_nil)
      (pss_cons (ps_if (pt_cmpR op_eq (pv 0) pe_str (nomark _)) (pss_one (ps_ret (pe_lst pa_nil))) pss_nil)
      (pss_one (ps_ret (pe_call G3 hr rfl D3.gl D3.fn.kp D3.bd .nil pass0 (pa_cons (pe_compE (Nc := ["place", "part"]) (fv := [none, none]) ⟨rfl, by decide +kernel, rfl, by decide +kernel, trivial, by decide +kernel, rfl, trivial⟩ rfl
          (pi_enum rfl T.enum (pa_cons (pe_bm PySem.F.plainAttrs_str PySem.F.slot_str_split PySem.F.type_str_split mt_split (pv 0) (pa_cons (pe_glob (v := .str ", ") rfl d1 ⟨_, rfl⟩) pa_nil)) pa_nil))
          (fun _ _ _ _ _ => pg_tupK (K := K) (n := 2) rfl rfl (pgs_cons (pg_name (i := 0) (show (["place", "part"] : List Str).Nodup by decide +kernel) rfl (Or.inl rfl)) (pgs_cons (pg_name (i := 1) (show (["place", "part"] : List Str).Nodup by decide +kernel) rfl (Or.inl rfl)) pgs_nil)))
          (fun _ _ _ _ _ => pif_nil)
          (fun _ _ _ _ _ => pe_call G5 hr rfl D5.gl D5.fn.kp D5.bd .nil pass_comp (pa_cons (pv 1) (pa_cons (pv 0) pa_nil)))) pa_nil))))), ?_⟩
    rcases h with ⟨x, rfl, hl, kQ, kE⟩ | ⟨hn, kE⟩
    case inr =>
      obtain ⟨ty, tyx, kt⟩ := nonS_ty (K := K) hn
      refine ⟨_, rfl, _, _, _, rfl, tyx, .inl ⟨rfl, false, kt, false, rfl, iteT ?_⟩⟩
      refine ⟨by show 1 ≤ sizeLine; decide, fun e he => ?_⟩
      refine ⟨e, aX, iX, aB, 0, rfl, upd_same, R.I, R.na, by decide, fun dx hd => ⟨rfl, some dx, upd_same, ?_⟩⟩
      obtain ⟨z1, z2, z3⟩ := raised (o2 := .xd [("place", .int 0)]) (o3 := ExcN e aX (some dx)) he hd
      exact kE _ dx z1 z2 z3
    refine ⟨_, rfl, _, _, _, rfl, .of (.str _), .inl ⟨rfl, true, kit_str, true, rfl, iteF ?_⟩⟩
    refine ⟨_, rfl, rfl, _, rfl, ?_⟩
    have e0 : ("" : Str) = Str.empty := by decide +kernel
    refine ite2 (fun z => ?_) (fun z => ?_)
    · have ex : x = Str.empty := (V.str.inj (of_decide_eq_true z)).trans e0
      refine ⟨Nat.zero_le _, fun p hp => ?_⟩
      have er : Tx.rdText x = ([], true) := by unfold Tx.rdText; rw [if_pos ex]
      rw [er] at kQ
      exact kQ rfl p [] _ (same_new hp) hp upd_same .nil
    have ex : x ≠ Str.empty := fun y => z (decide_eq_true (by rw [y, e0]))
    have er : Tx.rdText x = Tx.rdAll (Txt.split x ", ") := by unfold Tx.rdText; rw [if_neg ex]
    rw [er] at kQ kE
    have wle := PyProof.Rows.split_le x (", " : Str)
    have wsh : ∀ (i : Nat) q, (Txt.split x ", ")[i]? = some q → q.length ≤ x.length := fun i q hq => PyProof.Rows.part_short (List.mem_of_getElem? hq)
    generalize hps : Txt.split x ", " = ps at *
    refine ⟨_, rfl, rfl, x, ", ", rfl, rfl, by decide +kernel, Nat.le_trans (Nat.add_le_add_right hl 2) (by decide), fun pp hpp => ?_⟩
    rw [hps]
    have s1 := same_new (o := .lst (ps.map V.str)) hpp
    have hpl : upd H pp (.lst (ps.map V.str)) pp = some (.lst (ps.map V.str)) := upd_same
    generalize upd H pp (.lst (ps.map V.str)) = H1 at s1 hpl ⊢
    refine ⟨pp, rfl, ⟨_, SqL.of hpl⟩, fun p hp => ?_⟩
    refine comp_enum (K := K) (a := pp) (xs := ps.map V.str) (fun i ys H2 => Same H1 H2 ∧ H2 p = some (.lst ys) ∧ ∃ rs, RowsAt H2 ys rs ∧ rs.length = i ∧ (∀ r ∈ rs, 0 ≤ r.2) ∧ ∀ (j : Nat) q, j < i → ps[j]? = some q → Tx.rdPart q = rs[j]?)
      ⟨same_new hp, upd_same, [], .nil, rfl, by simp, fun j q hj => absurd hj (Nat.not_lt_zero _)⟩ (fun i ys H2 h => ⟨h.1.seq (SqL.of hpl), h.2.1⟩) ?_ ?_
    · rintro i xv ys H2 t hi hx ⟨sm, hy, rs, hR, hlen, hnn, hpre⟩ ht
      rw [List.getElem?_map] at hx
      obtain ⟨q, hq, rfl⟩ := Option.map_eq_some_iff.mp hx
      rw [List.length_map] at hi
      have g1 := same_new (o := .tup [.int i, .str q]) ht
      refine ⟨t, _, rfl, SqT.of upd_same, rfl, _, _, rfl, _, _, rfl, rfl, ((Wk.refl _).set rfl).set rfl, yes ?_⟩
      refine ⟨_, rfl, _, rfl, q, i, rfl, Nat.lt_of_lt_of_le hi (Nat.le_trans wle (by omega)), Nat.le_trans (wsh i q hq) (by omega), fun r hrd p' H' s' hp' h' => ?_, fun hb H' dx s' hdx hd' => ?_⟩
      · have g2 := g1.trans s'
        have hy' := g2 _ _ hy
        have np : p ≠ p' := fun e => by rw [← e, g1 _ _ hy] at hp'; cases hp'
        have ly := Paired.length hR
        refine ⟨hy', Nat.lt_of_le_of_lt (m := 100000) (by omega) (by decide), nx (by rw [List.length_map]; exact hi) ⟨(sm.trans g2).write hp, upd_same, rs ++ [r], ?_, by rw [List.length_append, hlen]; rfl, fun a ha => ?_, fun j q' hj hq' => ?_⟩⟩
        · exact ((hR.mono g2.tps).mono (tps_lst hy')).snoc ⟨p', rfl, tps_lst hy' _ _ h'⟩
        · rcases List.mem_append.mp ha with y | y
          · exact hnn a y
          · rw [List.mem_singleton.mp y]
            unfold Tx.rdPart at hrd
            split at hrd
            · split at hrd
              · split at hrd
                · cases hrd; exact Int.natCast_nonneg _
                · split at hrd
                  · cases hrd; exact Int.natCast_nonneg _
                  · cases hrd
              · cases hrd
            · cases hrd
        · by_cases y : j < i
          · rw [List.getElem?_append_left (by omega)]
            exact hpre j q' y hq'
          · have ej : j = i := by omega
            subst ej
            rw [hq] at hq'
            cases hq'
            rw [hrd, List.getElem?_append_right (by omega), hlen]
            simp
      · have hbad := rdAll_snoc ps i q hq (fun j q' hj hq' => by
          rw [hpre j q' hj hq']
          intro e
          rw [List.getElem?_eq_none_iff] at e
          omega) hb
        refine kE hbad.1 H' dx ((s1.trans sm).trans (g1.trans s')) ((s1.trans sm).free (g1.free hdx)) ?_
        rw [hbad.2]
        exact hd'
    · rintro ys H2 ⟨sm, hy, rs, hR, hlen, hnn, hpre⟩
      rw [List.length_map] at hlen hpre
      have hgood := rdAll_good ps rs hlen.symm fun j q hq => hpre j q (List.getElem?_eq_some_iff.mp hq).1 hq
      rw [hgood] at kQ
      refine ⟨p, ys, rs, rfl, SqL.of hy, hR, hnn, by omega, fun p' ys' H' s' hp' h1 h2 => ?_⟩
      exact kQ rfl p' ys' H' ((s1.trans sm).trans s') ((s1.trans sm).free hp') h1 h2
end
end Q8

set_option Elab.async false
set_option linter.all false
set_option maxRecDepth 100000
set_option maxHeartbeats 4000000
namespace Q8
open PySem L2
abbrev sShown : Stmt := top 20
abbrev sShSh : Stmt := top 24
abbrev sShSs : Stmt := top 25
/-- numbers that are written -/
def Num (i : Int) : Prop := 0 ≤ i ∧ i < 10 ^ 90
theorem num_len {i : Int} (h : Num i) : (toString i : Str).length ≤ 90 := by
  obtain ⟨m, rfl⟩ := Tx.nat_of h.1
  have hm : m < 10 ^ 90 := by
    have : (m : Int) < 10 ^ 90 := h.2
    exact_mod_cast this
  rw [← Tx.sgs_len, Tx.num_sgs, List.length_map]
  exact toDigits_len_pow (by decide) (by decide) hm
theorem num_log {i : Int} (h : Num i) : i.natAbs.log2 < 1920 := by
  obtain ⟨m, rfl⟩ := Tx.nat_of h.1
  have hm : m < 10 ^ 90 := by
    have : (m : Int) < 10 ^ 90 := h.2
    exact_mod_cast this
  show m.log2 < 1920
  by_cases z : m = 0
  · subst z; decide
  · exact (Nat.log2_lt z).mpr (Nat.lt_trans hm (by decide +kernel))
theorem row_len {r : Bk.Rw} (h : Num r.2) : (Tx.rowT r).length ≤ 94 := by
  unfold Tx.rowT
  rw [Str.length_append, Str.length_append]
  have h1 : (gs r.1).length = 3 := by cases r.1 <;> decide +kernel
  have h2 : (" " : Str).length = 1 := by decide +kernel
  have h3 := num_len h
  omega
/-- a piece, a share, shares written -/
def pcT (p : Pc) : Str := (toString p.1 : Str) ++ ("-" : Str) ++ (toString p.2 : Str)
def shT (ps : List Pc) : Str := if ps = [] then "none" else Str.join " " (ps.map pcT)
def ssT (S : List (List Pc)) : Str := Str.join " / " (S.map shT)
def PcN (p : Pc) : Prop := Num p.1 ∧ Num p.2
theorem pc_len {p : Pc} (h : PcN p) : (pcT p).length ≤ 181 := by
  unfold pcT
  rw [Str.length_append, Str.length_append]
  have h2 : ("-" : Str).length = 1 := by decide +kernel
  have h3 := num_len h.1
  have h4 := num_len h.2
  omega
theorem join_ok {sep : Str} {texts : List Str} {B n : Nat} (hB : ∀ y ∈ texts, y.length ≤ B) (hn : texts.length ≤ n) (hs : sep.length ≤ 3) (h : n * B + n * 3 ≤ 16777216) : JoinOk sep texts = true := by
  unfold JoinOk
  rw [StrLaws.joinFits hB]
  · rfl
  · have h1 : texts.length * B ≤ n * B := Nat.mul_le_mul_right _ hn
    have h2 : texts.length * sep.length ≤ n * 3 := Nat.mul_le_mul hn hs
    omega
theorem join_len {sep : Str} {texts : List Str} {B n : Nat} (hB : ∀ y ∈ texts, y.length ≤ B) (hn : texts.length ≤ n) (hs : sep.length ≤ 3) : (Str.join sep texts).length ≤ n * B + n * 3 := by
  have h := StrLaws.join_length_le sep texts
  have h0 := StrLaws.sumLen_le texts hB
  have h1 : texts.length * B ≤ n * B := Nat.mul_le_mul_right _ hn
  have h2 : texts.length * sep.length ≤ n * 3 := Nat.mul_le_mul hn hs
  omega
theorem sh_len {ps : List Pc} (hn : ps.length ≤ 100) (h : ∀ p ∈ ps, PcN p) : (shT ps).length ≤ 18400 := by
  unfold shT
  split
  · decide +kernel
  · have := join_len (sep := " ") (texts := ps.map pcT) (B := 181) (n := 100) (fun y hy => by
      obtain ⟨p, hp, rfl⟩ := List.mem_map.mp hy
      exact pc_len (h p hp)) (by rw [List.length_map]; exact hn) (by decide +kernel)
    omega
section
variable {P : Program} {w : World} {K : PySem.W.Frag} {mg : Str → Option Value} {base : Heap}
seal L2.PSs L2.PS L2.PE L2.PA L2.PT L2.PW
def spShown (K : PySem.W.Frag) : Sp := fun vs H Q _ => ∃ a xs rs, vs = [.ref a] ∧ SqL K H a xs ∧ RowsAt H xs rs ∧ rs.length ≤ 100 ∧ (∀ r ∈ rs, Num r.2) ∧ ∀ H', Same H H' → Q (.str (Tx.bankT rs)) H'
theorem scShw : FnScope ["bank"] ["bank"] (defScope sShown) := ⟨rfl, rfl, rfl, by decide +kernel, rfl, by decide +kernel, by decide +kernel⟩
theorem ok_shown {f aX aB iX : Addr} {fd dX : FuncData} (F : FunG K "shown" "shown" sShown f fd .none) (T : Py mg) (R : Rx K mg aX aB iX dX) : FnOk P w K mg base CX0 1 f fd ["bank"] (spShown K) := by
  refine F.ok scShw (fun vs H Q E h => ?_) (fun cdv A outer s H vs Q E hr h => ?_)
  · obtain ⟨_, _, _, rfl, _⟩ := h; rfl
  · obtain ⟨a, xs, rs, rfl, hS, hR, hl, hN, k⟩ := h
    obtain ⟨t1, d1⟩ := R.comma
    refine ⟨_, pss_one (ps_ret (pe_bm PySem.F.plainAttrs_str PySem.F.slot_str_join PySem.F.type_str_join mt_join (pe_glob (v := .str ", ") rfl d1 ⟨_, rfl⟩) (pa_cons (pe_comp (Nc := ["ground", "long"]) (fv := [none, none]) ⟨rfl, by decide +kernel, rfl, by decide +kernel, trivial, by decide +kernel, rfl, trivial⟩ rfl (pi_list (pv 0))
      (fun _ _ _ _ _ => pg_tupK (K := K) (n := 2) rfl rfl (pgs_cons (pg_name (i := 0) (show (["ground", "long"] : List Str).Nodup by decide +kernel) rfl (Or.inl rfl)) (pgs_cons (pg_name (i := 1) (show (["ground", "long"] : List Str).Nodup by decide +kernel) rfl (Or.inl rfl)) pgs_nil)))
      (fun _ _ _ _ _ => pif_nil) (fun _ _ _ _ _ => pe_fmt3 (pv 0) (pv 1))) pa_nil))), ?_⟩
    have hlen := Paired.length hR
    refine ⟨rfl, _, rfl, a, rfl, ⟨_, hS⟩, fun p hp => ?_⟩
    refine comp_list (K := K) (a := a) (xs := xs) (fun i ys H2 => Same H H2 ∧ H2 p = some (.lst ys) ∧ ys = ((rs.take i).map Tx.rowT).map V.str) ⟨same_new hp, upd_same, rfl⟩ (fun i ys H2 h => ⟨h.1.seq hS, h.2.1⟩) ?_ ?_
    · rintro i x ys H2 hi hx ⟨sm, hy, rfl⟩
      obtain ⟨r, hr1, hr2⟩ := hR.get hx
      obtain ⟨q, rfl, hq⟩ := hr2.mono sm.tps
      have hn := hN r (List.mem_of_getElem? hr1)
      have rl := row_len hn
      have er : Str.empty ++ gs r.1 ++ (" " : Str) ++ (toString r.2 : Str) = Tx.rowT r := by rw [Str.empty_append]; rfl
      have rl2 : (Str.empty ++ gs r.1 ++ (" " : Str)).length ≤ 94 := by
        rw [← er, Str.length_append] at rl; omega
      refine ⟨q, _, rfl, SqT.of hq, rfl, _, _, rfl, _, _, rfl, rfl, ((Wk.refl _).set rfl).set rfl, yes ?_⟩
      refine ⟨_, rfl, gs r.1, .inl ⟨rfl, by cases r.1 <;> decide +kernel⟩, Nat.le_trans rl2 (by decide), _, rfl, (toString r.2 : Str), .inr ⟨r.2, rfl, num_log hn, rfl⟩, by rw [er]; exact Nat.le_trans rl (by decide), hy, ?_, nx hi ⟨sm.write hp, upd_same, ?_⟩⟩
      · refine Nat.lt_of_le_of_lt (m := 1000) ?_ (by decide)
        simp only [List.length_map, List.length_take]; omega
      · rw [er, take_snoc hr1]; simp
    · rintro ys H2 ⟨sm, hy, rfl⟩
      rw [hlen, List.take_length] at hy
      refine ⟨_, p, rs.map Tx.rowT, rfl, rfl, SqL.of hy, join_ok (B := 94) (n := 100) (fun y hy => ?_) (by rw [List.length_map]; exact hl) (by decide +kernel) (by decide), k H2 sm⟩
      obtain ⟨r, hr, rfl⟩ := List.mem_map.mp hy
      exact row_len (hN r hr)
def spShSh (K : PySem.W.Frag) : Sp := fun vs H Q _ => ∃ a ps, vs = [.ref a] ∧ ShAt H a ps ∧ ps.length ≤ 100 ∧ (∀ p ∈ ps, PcN p) ∧ ∀ H', Same H H' → Q (.str (shT ps)) H'
theorem scShS : FnScope ["share"] ["share"] (defScope sShSh) := ⟨rfl, rfl, rfl, by decide +kernel, rfl, by decide +kernel, by decide +kernel⟩
theorem ok_shsh {f : Addr} {fd : FuncData} (F : FunG K "shown_share" "shown_share" sShSh f fd .none) (T : Py mg) : FnOk P w K mg base CX0 1 f fd ["share"] (spShSh K) := by
  refine F.ok scShS (fun vs H Q E h => ?_) (fun cdv A outer s H vs Q E hr h => ?_)
  · obtain ⟨_, _, rfl, _⟩ := h; rfl
  · obtain ⟨a, ps, rfl, ⟨xs, ha, hP⟩, hl, hN, k⟩ := h
    refine ⟨_, pss_cons (ps_if (pt_cmpR op_eq (pe_callB call_len_seq rfl T.len PySem.boot_len (pa_cons (pv 0) pa_nil)) pe_int (nomark _)) (pss_one (ps_ret pe_str)) pss_nil)
      (pss_one (ps_ret (pe_bm PySem.F.plainAttrs_str PySem.F.slot_str_join PySem.F.type_str_join mt_join pe_str (pa_cons (pe_comp (Nc := ["start", "end"]) (fv := [none, none]) ⟨rfl, by decide +kernel, rfl, by decide +kernel, trivial, by decide +kernel, rfl, trivial⟩ rfl (pi_list (pv 0))
      (fun _ _ _ _ _ => pg_tupK (K := K) (n := 2) rfl rfl (pgs_cons (pg_name (i := 0) (show (["start", "end"] : List Str).Nodup by decide +kernel) rfl (Or.inl rfl)) (pgs_cons (pg_name (i := 1) (show (["start", "end"] : List Str).Nodup by decide +kernel) rfl (Or.inl rfl)) pgs_nil)))
      (fun _ _ _ _ _ => pif_nil) (fun _ _ _ _ _ => pe_fmt3 (pv 0) (pv 1))) pa_nil)))), ?_⟩
    have hlen := Paired.length hP
    refine ⟨_, rfl, a, _, rfl, .inl (SqL.of ha), rfl, _, rfl, ?_⟩
    refine ite2 (fun z => ?_) (fun z => ?_)
    · have z1 : ((xs.length : Nat) : Int) = 0 := V.int.inj (of_decide_eq_true z)
      have e : ps = [] := List.length_eq_zero_iff.mp (by omega)
      have := k H (.refl H)
      rw [show shT ps = "none" by unfold shT; rw [if_pos e]] at this
      exact this
    have ne : ps ≠ [] := fun e => z (decide_eq_true (by rw [hlen, e]; rfl))
    refine ⟨rfl, _, rfl, a, rfl, ⟨_, SqL.of ha⟩, fun p hp => ?_⟩
    refine comp_list (K := K) (a := a) (xs := xs) (fun i ys H2 => Same H H2 ∧ H2 p = some (.lst ys) ∧ ys = ((ps.take i).map pcT).map V.str) ⟨same_new hp, upd_same, rfl⟩ (fun i ys H2 h => ⟨h.1.seq (SqL.of ha), h.2.1⟩) ?_ ?_
    · rintro i x ys H2 hi hx ⟨sm, hy, rfl⟩
      obtain ⟨r, hr1, hr2⟩ := paired_get hP hx
      obtain ⟨q, rfl, hq⟩ := hr2.mono sm.tps
      have hn := hN r (List.mem_of_getElem? hr1)
      have rl := pc_len hn
      have er : Str.empty ++ (toString r.1 : Str) ++ ("-" : Str) ++ (toString r.2 : Str) = pcT r := by rw [Str.empty_append]; rfl
      have rl2 : (Str.empty ++ (toString r.1 : Str) ++ ("-" : Str)).length ≤ 181 := by
        rw [← er, Str.length_append] at rl; omega
      refine ⟨q, _, rfl, SqT.of hq, rfl, _, _, rfl, _, _, rfl, rfl, ((Wk.refl _).set rfl).set rfl, yes ?_⟩
      refine ⟨_, rfl, (toString r.1 : Str), .inr ⟨r.1, rfl, num_log hn.1, rfl⟩, Nat.le_trans rl2 (by decide), _, rfl, (toString r.2 : Str), .inr ⟨r.2, rfl, num_log hn.2, rfl⟩, by rw [er]; exact Nat.le_trans rl (by decide), hy, ?_, nx hi ⟨sm.write hp, upd_same, ?_⟩⟩
      · refine Nat.lt_of_le_of_lt (m := 1000) ?_ (by decide)
        simp only [List.length_map, List.length_take]; omega
      · rw [er, take_snoc hr1]; simp
    · rintro ys H2 ⟨sm, hy, rfl⟩
      rw [hlen, List.take_length] at hy
      have := k H2 sm
      rw [show shT ps = Str.join " " (ps.map pcT) by unfold shT; rw [if_neg ne]] at this
      refine ⟨_, p, ps.map pcT, rfl, rfl, SqL.of hy, join_ok (B := 181) (n := 100) (fun y hy => ?_) (by rw [List.length_map]; exact hl) (by decide +kernel) (by decide), this⟩
      obtain ⟨r, hr, rfl⟩ := List.mem_map.mp hy
      exact pc_len (hN r hr)
def spShSs (K : PySem.W.Frag) : Sp := fun vs H Q _ => ∃ p as S, vs = [.ref p] ∧ SsAt H p as S ∧ S.length ≤ 100 ∧ (∀ ps ∈ S, ps.length ≤ 100 ∧ ∀ p ∈ ps, PcN p) ∧ ∀ H', Same H H' → Q (.str (ssT S)) H'
theorem scShT : FnScope ["shares"] ["shares"] (defScope sShSs) := ⟨rfl, rfl, rfl, by decide +kernel, rfl, by decide +kernel, by decide +kernel⟩
theorem ok_shss {f f1 : Addr} {fd fd1 : FuncData} (F : FunG K "shown_shares" "shown_shares" sShSs f fd .none) (T : Py mg) (D1 : Df K mg "shown_share" sShSh ["share"] f1 fd1) : FnOk P w K mg base CX0 2 f fd ["shares"] (spShSs K) := by
  have G1 : FnOk P w K mg base CX0 1 f1 fd1 ["share"] (spShSh K) := ok_shsh D1.fn T
  refine F.ok scShT (fun vs H Q E h => ?_) (fun cdv A outer s H vs Q E hr h => ?_)
  · obtain ⟨_, _, _, rfl, _⟩ := h; rfl
  · obtain ⟨pS, as, S, rfl, hS, hl, hN, k⟩ := h
    refine ⟨_, pss_one (ps_ret (pe_bm PySem.F.plainAttrs_str PySem.F.slot_str_join PySem.F.type_str_join mt_join pe_str (pa_cons (pe_comp (Nc := ["share"]) (fv := [none]) ⟨rfl, by decide +kernel, rfl, by decide +kernel, trivial, by decide +kernel, rfl, trivial⟩ rfl (pi_list (pv 0))
      (fun _ _ _ _ _ => pg_name (i := 0) (show (["share"] : List Str).Nodup by decide +kernel) rfl (Or.inl rfl))
      (fun _ _ _ _ _ => pif_nil) (fun _ _ _ _ _ => pe_call G1 hr rfl D1.gl D1.fn.kp D1.bd .nil pass0 (pa_cons (pv 0) pa_nil))) pa_nil))), ?_⟩
    have hlen := Paired.length hS.2
    refine ⟨rfl, _, rfl, pS, rfl, ⟨_, SqL.of hS.1⟩, fun p hp => ?_⟩
    refine comp_list (K := K) (a := pS) (xs := as.map V.ref) (fun i ys H2 => Same H H2 ∧ H2 p = some (.lst ys) ∧ ys = ((S.take i).map shT).map V.str) ⟨same_new hp, upd_same, rfl⟩ (fun i ys H2 h => ⟨h.1.seq (SqL.of hS.1), h.2.1⟩) ?_ ?_
    · rintro i x ys H2 hi hx ⟨sm, hy, rfl⟩
      rw [List.getElem?_map] at hx
      obtain ⟨a1, ha1, rfl⟩ := Option.map_eq_some_iff.mp hx
      obtain ⟨z, hz, hz2⟩ := paired_get hS.2 ha1
      have hn := hN z (List.mem_of_getElem? hz)
      refine ⟨(Wk.refl _).set rfl, yes ?_⟩
      refine ⟨_, rfl, a1, z, rfl, hz2.mono sm, hn.1, hn.2, fun H3 s3 => ?_⟩
      rw [List.length_map] at hi
      refine ⟨s3 _ _ hy, ?_, nx (by rw [List.length_map]; exact hi) ⟨(sm.trans s3).write hp, upd_same, ?_⟩⟩
      · refine Nat.lt_of_le_of_lt (m := 1000) ?_ (by decide)
        simp only [List.length_map, List.length_take]; omega
      · rw [take_snoc hz]; simp
    · rintro ys H2 ⟨sm, hy, rfl⟩
      rw [List.length_map, hlen, List.take_length] at hy
      refine ⟨_, p, S.map shT, rfl, rfl, SqL.of hy, join_ok (B := 18400) (n := 100) (fun y hy => ?_) (by rw [List.length_map]; exact hl) (by decide +kernel) (by decide), k H2 sm⟩
      obtain ⟨r, hr, rfl⟩ := List.mem_map.mp hy
      exact sh_len (hN r hr).1 (hN r hr).2
end
end Q8

set_option Elab.async false
set_option linter.all false
set_option maxRecDepth 100000
set_option maxHeartbeats 4000000
namespace K8
open PySem L2
def top (i : Nat) : Stmt := PySem.Challenge.pw_bankshare_k08_texts.main.body.getD i (.Pass ⟨0, 0, 0, 0⟩)
abbrev sCell : Stmt := top 27
abbrev sLWh : Stmt := top 28
abbrev sRow : Stmt := top 29
abbrev sLTidy : Stmt := top 30
abbrev sText : Stmt := top 31
abbrev sSign : Stmt := top 32
abbrev sOddP : Stmt := top 33
abbrev sSpoilt : Stmt := top 34
abbrev sNumber : Stmt := top 35
abbrev sLRead : Stmt := top 36
abbrev sAsked : Stmt := top 37
abbrev sBank : Stmt := top 38
abbrev sRfd : Stmt := top 39
abbrev sShares : Stmt := top 40
abbrev sShT : Stmt := top 41
abbrev sLaw : Stmt := top 42
/-- the names of Python's own that the law's defs ask for -/
structure Pl (mg : Str → Option Value) : Prop where
  isi : mg "isinstance" = none
  str : mg "str" = none
  int : mg "int" = none
  bool : mg "bool" = none
  list : mg "list" = none
  tuple : mg "tuple" = none
  len : mg "len" = none
  range : mg "range" = none
  verr : mg "ValueError" = none
section
variable {K : PySem.W.Frag}
theorem kit_int_int : PySem.W.kitOne K (.type "int") (.type "int") = some true := rfl
theorem kit_int_bool : PySem.W.kitOne K (.type "int") (.type "bool") = some false := by kernel_rfl
theorem kit_str_str : PySem.W.kitOne K (.type "str") (.type "str") = some true := rfl
theorem kit_list_list : PySem.W.kitOne K (.type "list") (.type "list") = some true := rfl
theorem kit_tup_tup : PySem.W.kitOne K (.type "tuple") (.type "tuple") = some true := rfl
theorem kit_int_list : PySem.W.kitOne K (.type "int") (.type "list") = some false := by kernel_rfl
end
theorem take_snoc {α : Type} {l : List α} {i : Nat} {x : α} (h : l[i]? = some x) : l.take (i + 1) = l.take i ++ [x] := by
  rw [List.take_add_one, h]; rfl
def cellN (ns : List Int) (k : Int) : Int := ns.getD k.toNat 0
theorem two {i : Int} (h0 : 0 ≤ i) (h1 : i < 2) : atI [V.str "dry", V.str "wet"] i = some (.str (gs (decide (i = 0)))) := by
  have : i = 0 ∨ i = 1 := by omega
  rcases this with rfl | rfl
  · rfl
  · rfl
theorem eqv_nil (rs : List Bk.Rw) (h : rs ≠ []) : PyData.eqv (rowsD rs) (rowsD []) = false := by rw [eqv_rows]; exact decide_eq_false h
theorem put_zero (bs : List Bk.Rw) (r : Bk.Rw) (h : r.2 = 0) : Bk.put bs r = bs := by
  rcases Bk.snoc_cases bs with rfl | ⟨i, b, rfl⟩
  · rw [Bk.put_nil, if_neg (by omega)]
  · rw [Bk.put_snoc]
    split
    · rename_i e
      rw [h, Int.add_zero, ← e]
    · rw [if_neg (by omega)]
section
variable {P : Program} {w : World} {K : PySem.W.Frag} {mg : Str → Option Value} {base : Heap}
seal L2.PSs L2.PS L2.PE L2.PA L2.PT L2.PW
def spCell (K : PySem.W.Frag) : Sp := fun vs H Q _ => ∃ (a : Addr) (ns : List Int) (k : Int), vs = [.ref a, .int k] ∧ SqL K H a (ns.map V.int) ∧ 0 ≤ k ∧ Q (.int (cellN ns k)) H
theorem scCe : FnScope ["_law_script", "_law_k"] ["_law_script", "_law_k"] (defScope sCell) := ⟨rfl, rfl, rfl, by decide +kernel, rfl, by decide +kernel, by decide +kernel⟩
theorem ok_cell {f : Addr} {fd : FuncData} (F : FunG K "_law_cell_at" "_law_cell_at" sCell f fd .none) (T : Pl mg) : FnOk P w K mg base CX0 1 f fd ["_law_script", "_law_k"] (spCell K) := by
  refine F.ok scCe (fun vs H Q E h => ?_) (fun cdv A outer s H vs Q E hr h => ?_)
  · obtain ⟨v, r, pl, rfl, _⟩ := h; rfl
  · obtain ⟨a, ns, k, rfl, hS, h0, q⟩ := h
    refine ⟨_, pss_cons (ps_if (pt_cmpR op_lt (pv 1) (pe_callB call_len_seq rfl T.len PySem.boot_len (pa_cons (pv 0) pa_nil)) (nomark _)) (pss_one (ps_ret (pe_ix ix_list (pv 0) (pv 1) (fun _ _ => rfl)))) pss_nil) (pss_one (ps_ret pe_int)), ?_⟩
    refine ⟨_, rfl, _, rfl, a, _, rfl, .inl hS, _, _, rfl, rfl, _, rfl, ?_⟩
    refine ite2 (fun z => ?_) (fun z => ?_)
    · have z' : k < ((ns.map V.int).length : Int) := of_decide_eq_true z
      rw [List.length_map] at z'
      have hk : k.toNat < ns.length := by omega
      refine ⟨_, rfl, _, rfl, a, _, k, .int (cellN ns k), rfl, rfl, hS, ?_, q⟩
      have e : k = ((k.toNat : Nat) : Int) := by omega
      have h := atI_nat (xs := ns.map V.int) (j := k.toNat) (v := .int (cellN ns k)) (by
        rw [List.getElem?_map, List.getElem?_eq_getElem hk]
        simp [cellN, hk])
      rw [← e] at h
      exact h
    · have z' : ¬ k < ((ns.map V.int).length : Int) := fun y => z (decide_eq_true y)
      rw [List.length_map] at z'
      have : cellN ns k = 0 := by
        unfold cellN
        rw [List.getD_eq_getElem?_getD, List.getElem?_eq_none (by omega)]
        rfl
      rw [this] at q
      exact q
theorem scLW : FnScope ["_law_found"] ["_law_found"] (defScope sLWh) := ⟨rfl, rfl, rfl, by decide +kernel, rfl, by decide +kernel, by decide +kernel⟩
def spLWh : Sp := fun vs H Q _ => ∃ i, vs = [.int i] ∧ Q (.bl true) H
theorem ok_lwh {f : Addr} {fd : FuncData} (F : FunG K "_law_whole" "_law_whole" sLWh f fd .none) (T : Pl mg) : FnOk P w K mg base CX0 1 f fd ["_law_found"] spLWh := by
  refine F.ok scLW (fun vs H Q E h => ?_) (fun cdv A outer s H vs Q E hr h => ?_)
  · obtain ⟨g, rfl, _⟩ := h; rfl
  · obtain ⟨i, rfl, k⟩ := h
    refine ⟨_, pss_one (ps_ret (pe_and (pe_callB call_isi rfl T.isi PyProof.Rows.boot_isinstance (pa_cons (pv 0) (pa_cons (pe_bltn (v := .ty "int") rfl T.int PyProof.Rows.boot_int rfl) pa_nil)))
      (pe_one (pe_not (pe_callB call_isi rfl T.isi PyProof.Rows.boot_isinstance (pa_cons (pv 0) (pa_cons (pe_bltn (v := .ty "bool") rfl T.bool PyProof.Rows.boot_bool rfl) pa_nil))))))), ?_⟩
    refine ⟨_, rfl, _, _, _, rfl, .of (.int _), .inl ⟨rfl, true, kit_int_int, true, rfl, iteT ?_⟩⟩
    exact ⟨_, rfl, _, _, _, rfl, .of (.int _), .inl ⟨rfl, false, kit_int_bool, false, rfl, k⟩⟩
/-! _law_row -/
def spRow : Sp := fun vs H Q _ => ∃ c, vs = [.int c] ∧ ∀ p (r : Bk.Rw) H', Same H H' → H p = none → H' p = some (.tup [.str (gs r.1), .int r.2]) → 0 ≤ r.2 → r.2 < 10 ^ 58 → Q (.ref p) H'
theorem scRo : FnScope ["_law_cell", "_law_most"] ["_law_cell"] (defScope sRow) := ⟨rfl, rfl, rfl, by decide +kernel, rfl, by decide +kernel, by decide +kernel⟩
theorem fourB {i : Int} (h0 : 0 ≤ i) (h1 : i < 4) : ∃ m : Int, 0 < m ∧ m ≤ 10 ^ 58 ∧ atI [V.int 3, V.int 12, V.int (10 ^ 18 + 1), V.int (10 ^ 58)] i = some (.int m) := by
  have : i = 0 ∨ i = 1 ∨ i = 2 ∨ i = 3 := by omega
  rcases this with rfl | rfl | rfl | rfl
  · exact ⟨3, by decide, by decide, rfl⟩
  · exact ⟨12, by decide, by decide, rfl⟩
  · exact ⟨10 ^ 18 + 1, by decide, by decide, rfl⟩
  · exact ⟨10 ^ 58, by decide, by decide, rfl⟩
theorem ok_row {f : Addr} {fd : FuncData} (F : FunG K "_law_row" "_law_row" sRow f fd .none) (T : Pl mg) : FnOk P w K mg base CX0 1 f fd ["_law_cell"] spRow := by
  refine F.ok scRo (fun vs H Q E h => ?_) (fun cdv A outer s H vs Q E hr h => ?_)
  · obtain ⟨g, rfl, _⟩ := h; rfl
  · obtain ⟨c, rfl, k⟩ := h
    refine ⟨_, pss_cons (ps_set (i := 1) scRo.nd rfl (Or.inl rfl) (pe_ix ix_list (pe_lst (pa_cons pe_int (pa_cons pe_int (pa_cons (pe_op op_add (pe_op op_pow pe_int pe_int) pe_int) (pa_cons (pe_op op_pow pe_int pe_int) pa_nil))))) (pe_op op_mod (pe_op op_fdiv (pv 0) pe_int) pe_int) (fun _ _ => rfl)))
      (pss_one (ps_ret (pe_tup (pa_cons (pe_ix ix_list (pe_lst (pa_cons pe_str (pa_cons pe_str pa_nil))) (pe_op op_mod (pv 0) pe_int) (fun _ _ => rfl)) (pa_cons (pe_op op_mod (pe_op op_fdiv (pv 0) pe_int) (pv 1)) pa_nil))))), ?_⟩
    obtain ⟨m, hm0, hm1, hm⟩ := fourB (Int.emod_nonneg (c / 2) (show (4 : Int) ≠ 0 by decide)) (Int.emod_lt_of_pos _ (by decide))
    refine ⟨_, _, rfl, rfl, ⟨by decide, by decide, by decide⟩, _, _, rfl, rfl, _, _, rfl, rfl, ⟨by decide, by decide, by decide⟩, by show 4 ≤ sizeLine; decide, fun p1 hp1 => ?_⟩
    refine ⟨_, rfl, _, _, rfl, rfl, ⟨by decide, by decide⟩, _, _, rfl, rfl, (by decide : (0 : Int) < 4), p1, _, _, _, rfl, rfl, SqL.of upd_same, hm, ?_⟩
    have s1 : ∀ o, Same H (upd H p1 o) := fun o => same_new hp1
    refine ⟨by show 2 ≤ sizeLine; decide, fun p2 hp2 => ?_⟩
    refine ⟨_, rfl, _, _, rfl, rfl, (by decide : (0 : Int) < 2), p2, _, _, _, rfl, rfl, SqL.of upd_same, two (Int.emod_nonneg _ (by decide)) (Int.emod_lt_of_pos _ (by decide)), ?_⟩
    refine ⟨_, rfl, _, _, rfl, rfl, ⟨by decide, by decide⟩, _, rfl, _, _, rfl, rfl, hm0, by show 2 ≤ sizeLine; decide, fun p hp => ?_⟩
    have s2 := (s1 _).trans (same_new (o := .lst [V.str "dry", .str "wet"]) hp2)
    refine k p (decide (c % 2 = 0), c / 8 % m) _ (s2.trans (same_new hp)) (s2.free hp) upd_same (Int.emod_nonneg _ (by omega)) ?_
    have := Int.emod_lt_of_pos (c / 8) hm0
    show c / 8 % m < 10 ^ 58
    omega
def spLTidy (K : PySem.W.Frag) : Sp := fun vs H Q _ => ∃ a xs rs, vs = [.ref a] ∧ SqL K H a xs ∧ RowsAt H xs rs ∧ (∀ r ∈ rs, 0 ≤ r.2) ∧ rs.length ≤ 60000 ∧
  ∀ p ys H', Same H H' → H p = none → H' p = some (.lst ys) → RowsAt H' ys (Bk.tidy rs) → Q (.ref p) H'
theorem scLT : FnScope ["_law_rows", "_law_made", "_law_ground", "_law_long"] ["_law_rows"] (defScope sLTidy) := ⟨rfl, rfl, rfl, by decide +kernel, rfl, by decide +kernel, by decide +kernel⟩
theorem ok_ltidy {f : Addr} {fd : FuncData} (F : FunG K "_law_tidy" "_law_tidy" sLTidy f fd .none) (T : Pl mg) : FnOk P w K mg base CX0 1 f fd ["_law_rows"] (spLTidy K) := by
  refine F.ok scLT (fun vs H Q E h => ?_) (fun cdv A outer s H vs Q E hr h => ?_)
  · obtain ⟨_, _, _, rfl, _⟩ := h; rfl
  · obtain ⟨a, xs, rs, rfl, hS, hR, h0, hl, k⟩ := h
    refine ⟨_, pss_cons (ps_set (i := 1) scLT.nd rfl (Or.inl rfl) (pe_lst pa_nil))
      (pss_cons (ps_for PassesOwn.never rfl (pi_list (pv 0)) (pg_tup rfl (pgs_cons (pg_name (i := 2) scLT.nd rfl (Or.inl rfl)) (pgs_cons (pg_name (i := 3) scLT.nd rfl (Or.inl rfl)) pgs_nil)))
        (pss_one (ps_if (PW.pt (pw_and (pt_cmpR op_gt (pv 3) pe_int (nomark _)) (pw_and (pt_cmpR (op_neD hr.units) (pv 1) (pe_lst pa_nil) (nomark _))
            (pw_and1 (pt_cmpR op_eq (pe_ix ix_tup (pe_ix ix_list (pv 1) (pe_un un_neg pe_int) (fun _ _ => rfl)) pe_int (fun _ _ => rfl)) (pv 2) (nomark _))))))
          (pss_one (ps_asg (pe_tup (pa_cons (pv 2) (pa_cons (pe_op op_add (pe_ix ix_tup (pe_ix ix_list (pv 1) (pe_un un_neg pe_int) (fun _ _ => rfl)) pe_int (fun _ _ => rfl)) (pv 3)) pa_nil))) (pg_sub (pv 1) (pe_un un_neg pe_int) set_list)))
          (pss_one (ps_if (pt_cmpR op_gt (pv 3) pe_int (nomark _))
            (pss_one (ps_expr (pe_bm PySem.F.plainAttrs_list PySem.F.slot_list_append PySem.F.type_list_append mt_append (pv 1) (pa_cons (pe_tup (pa_cons (pv 2) (pa_cons (pv 3) pa_nil))) pa_nil)))) pss_nil)))))
      (pss_one (ps_ret (pv 1)))), ?_⟩
    refine ⟨Nat.zero_le _, fun p hp => ?_⟩
    have hlen := Paired.length hR
    refine ⟨_, rfl, a, rfl, ⟨_, (same_new hp).seq hS⟩, for_list (K := K) (a := a) (xs := xs) (fun i σ H2 => ∃ ys s2 s3, σ = [some (.ref a), some (.ref p), s2, s3] ∧ Same H H2 ∧ H2 p = some (.lst ys) ∧ RowsAt H2 ys (Bk.tidy (rs.take i)))
      ⟨[], none, none, rfl, same_new hp, upd_same, .nil⟩ (fun i σ H2 _ ⟨_, _, _, _, s2, _⟩ => s2.seq hS) ?_ ?_⟩
    · rintro i x σ H2 hx ⟨ys, s2, s3, rfl, sm, hb, hy⟩
      obtain ⟨r, hr1, hr2⟩ := hR.get hx
      obtain ⟨q, rfl, hq⟩ := hr2.mono sm.tps
      have hri : 0 ≤ r.2 := h0 r (List.mem_of_getElem? hr1)
      have hlt : i < rs.length := (List.getElem?_eq_some_iff.mp hr1).1
      have ly : ys.length ≤ 100000 := by
        have h1 := Paired.length hy
        have h2 := Bk.tidy_length (rs.take i)
        have h3 : (rs.take i).length ≤ i := by rw [List.length_take]; omega
        omega
      have tk : Bk.tidy (rs.take (i + 1)) = Bk.put (Bk.tidy (rs.take i)) r := by rw [take_snoc hr1, Bk.tidy_snoc]
      -- put behind
      have app : Bk.tidy (rs.take (i + 1)) = Bk.tidy (rs.take i) ++ [r] → ∀ H4, Same H2 H4 → ∀ Z : Addr, H4 Z = none → ∃ ys' z2 z3, [some (V.ref a), some (.ref p), some (.str (gs r.1)), some (.int r.2)] = [some (.ref a), some (.ref p), z2, z3] ∧ Same H (upd (upd H4 Z (.tup [.str (gs r.1), .int r.2])) p (.lst (ys ++ [.ref Z]))) ∧
          upd (upd H4 Z (.tup [.str (gs r.1), .int r.2])) p (.lst (ys ++ [.ref Z])) p = some (.lst ys') ∧ RowsAt (upd (upd H4 Z (.tup [.str (gs r.1), .int r.2])) p (.lst (ys ++ [.ref Z]))) ys' (Bk.tidy (rs.take (i + 1))) := fun e H4 s4 Z hZ => by
        have hb4 := s4 _ _ hb
        have npZ : Z ≠ p := fun z => by rw [z, hb4] at hZ; cases hZ
        have tps : Tps H4 (upd (upd H4 Z (.tup [.str (gs r.1), .int r.2])) p (.lst (ys ++ [.ref Z]))) := fun b xs e => by
          rw [upd_ne (fun z => by rw [z, hb4] at e; cases e), upd_ne (ne_of_none e hZ)]; exact e
        refine ⟨ys ++ [.ref Z], _, _, rfl, ((sm.trans s4).trans (same_new hZ)).write hp, upd_same, ?_⟩
        rw [e]
        exact ((hy.mono s4.tps).mono tps).snoc ⟨Z, rfl, by rw [upd_ne npZ, upd_same]⟩
      refine ⟨q, _, rfl, SqT.of hq, rfl, _, _, rfl, _, _, rfl, rfl, ?_⟩
      refine ⟨_, rfl, _, _, rfl, rfl, _, rfl, ?_⟩
      refine ite2 (fun z => ?_) (fun z => iteF ?_)
      case refine_2 =>
        have z' : ¬ 0 < r.2 := fun y => z (decide_eq_true y)
        refine ⟨_, rfl, _, _, rfl, rfl, _, rfl, ?_⟩
        refine ite2 (fun y => absurd y z) (fun _ => ?_)
        exact ⟨ys, _, _, rfl, sm, hb, by rw [tk, put_zero _ _ (by omega)]; exact hy⟩
      have zp : 0 < r.2 := of_decide_eq_true z
      refine ⟨_, rfl, Nat.zero_le _, fun n1 hn1 => ?_⟩
      have t1 := same_new (o := .lst []) hn1
      have g1 : upd H2 n1 (.lst []) n1 = some (.lst []) := upd_same
      generalize upd H2 n1 (.lst []) = H3 at t1 g1 ⊢
      have hb3 := t1 _ _ hb
      have hy3 : RowsAt H3 ys (Bk.tidy (rs.take i)) := hy.mono t1.tps
      refine ⟨rowsD (Bk.tidy (rs.take i)), rowsD [], rows_dat (SqL.of hb3) hy3, rows_dat (SqL.of g1) .nil, rowsD_can _, rowsD_can _, rowsD_depth _, ?_⟩
      rcases Bk.snoc_cases (Bk.tidy (rs.take i)) with e0 | ⟨bi, b, e0⟩
      · refine ⟨false, by rw [if_pos rfl, e0, eqv_rows]; rfl, iteF (iteF ?_)⟩
        refine ⟨_, rfl, _, _, rfl, rfl, _, rfl, ?_⟩
        refine ite2 (fun _ => ?_) (fun y => absurd z y)
        refine ⟨_, rfl, .inl ⟨rfl, _, SqL.of hb3⟩, _, rfl, _, rfl, by show 2 ≤ sizeLine; decide, fun Z hZ => ?_⟩
        have npZ : p ≠ Z := fun w => by rw [← w, hb3] at hZ; cases hZ
        refine ⟨p, ys, _, rfl, rfl, by rw [upd_ne npZ]; exact hb3, Nat.lt_of_le_of_lt ly (by decide), ?_⟩
        exact app (by rw [tk, e0, Bk.put_nil, if_pos zp]; rfl) H3 t1 Z hZ
      · refine ⟨true, by rw [if_pos rfl, eqv_nil _ (by rw [e0]; simp)]; rfl, iteT ?_⟩
        rw [e0] at hy3
        obtain ⟨us, v, rfl, hws, ⟨qb, rfl, hqb⟩⟩ := hy3.split
        have la : atI (us ++ [V.ref qb]) (-1) = some (.ref qb) := atI_last us (.ref qb)
        refine ⟨_, rfl, _, rfl, p, _, -1, _, rfl, rfl, SqL.of hb3, la, qb, _, 0, _, rfl, rfl, SqT.of hqb, rfl, _, rfl, rfl, _, rfl, ?_⟩
        refine ite2 (fun y => ?_) (fun y => ?_)
        · have z1 : V.str (gs b.1) = V.str (gs r.1) := of_decide_eq_true y
          have z2 : b.1 = r.1 := gs_inj.mp (V.str.inj z1)
          refine ⟨_, rfl, _, rfl, _, rfl, p, _, -1, _, rfl, rfl, SqL.of hb3, la, qb, _, 1, _, rfl, rfl, SqT.of hqb, rfl, _, rfl, _, _, rfl, rfl, by show 2 ≤ sizeLine; decide, fun Z hZ => ?_⟩
          have npZ : p ≠ Z := fun w => by rw [← w, hb3] at hZ; cases hZ
          have ix : ixN (us ++ [V.ref qb]).length (-1) = some us.length := by
            unfold ixN
            rw [if_neg (by decide), if_pos (by simp; omega)]
            congr 1
            simp; omega
          refine ⟨_, rfl, _, rfl, p, _, -1, us.length, rfl, rfl, by rw [upd_ne npZ]; exact hb3, ix, ?_⟩
          have tps : Tps H3 (upd (upd H3 Z (.tup [.str (gs r.1), .int (b.2 + r.2)])) p (.lst ((us ++ [V.ref qb]).set us.length (.ref Z)))) := fun b xs e => by
            rw [upd_ne (fun z => by rw [z, hb3] at e; cases e), upd_ne (ne_of_none e hZ)]; exact e
          refine ⟨us ++ [.ref Z], _, _, rfl, ((sm.trans t1).trans (same_new hZ)).write hp, ?_, ?_⟩
          · rw [upd_same]; simp
          · rw [tk, e0, Bk.put_snoc, if_pos z2]
            exact (hws.mono tps).snoc ⟨Z, rfl, by rw [upd_ne npZ.symm, upd_same]⟩
        · have z2 : ¬ b.1 = r.1 := fun q => y (decide_eq_true (by rw [q]))
          refine ⟨_, rfl, _, _, rfl, rfl, _, rfl, ?_⟩
          refine ite2 (fun _ => ?_) (fun y => absurd z y)
          refine ⟨_, rfl, .inl ⟨rfl, _, SqL.of hb3⟩, _, rfl, _, rfl, by show 2 ≤ sizeLine; decide, fun Z hZ => ?_⟩
          have npZ : p ≠ Z := fun w => by rw [← w, hb3] at hZ; cases hZ
          refine ⟨p, _, _, rfl, rfl, by rw [upd_ne npZ]; exact hb3, Nat.lt_of_le_of_lt ly (by decide), ?_⟩
          exact app (by rw [tk, e0, Bk.put_snoc, if_neg z2, if_pos zp]) H3 t1 Z hZ
    · rintro σ H2 ⟨ys, s2, s3, rfl, sm, hb, hy⟩
      rw [hlen, List.take_length] at hy
      exact ⟨_, rfl, k p ys H2 sm hp hb hy⟩
def spBank (K : PySem.W.Frag) : Sp := fun vs H Q _ => ∃ a b xs ys rs, vs = [.ref a, .ref b] ∧ H a = some (.lst xs) ∧ H b = some (.lst ys) ∧ RowsAt H xs rs ∧ RowsAt H ys rs ∧ Q (.bl true) H
theorem scBk : FnScope ["_law_found", "_law_due", "_law_row_here"] ["_law_found", "_law_due"] (defScope sBank) := ⟨rfl, rfl, rfl, by decide +kernel, rfl, by decide +kernel, by decide +kernel⟩
theorem ok_bank {f f1 : Addr} {fd fd1 : FuncData} (F : FunG K "_law_bank" "_law_bank" sBank f fd .none) (T : Pl mg) (D1 : Df K mg "_law_whole" sLWh ["_law_found"] f1 fd1) : FnOk P w K mg base CX0 2 f fd ["_law_found", "_law_due"] (spBank K) := by
  have G1 : FnOk P w K mg base CX0 1 f1 fd1 ["_law_found"] spLWh := ok_lwh D1.fn T
  refine F.ok scBk (fun vs H Q E h => ?_) (fun cdv A outer s H vs Q E hr h => ?_)
  · obtain ⟨v, r, pl, a, b, rfl, _⟩ := h; rfl
  · obtain ⟨a, b, xs, ys, rs, rfl, ha, hb, hx, hy, k⟩ := h
    refine ⟨_, pss_cons (ps_if (PW.pt (pw_or (pt_not (pt_val (pe_callB call_isi rfl T.isi PyProof.Rows.boot_isinstance (pa_cons (pv 0) (pa_cons (pe_bltn (v := .ty "list") rfl T.list PyProof.Rows.boot_list rfl) pa_nil)))))
        (pw_or1 (pt_cmpR op_ne (pe_callB call_len_seq rfl T.len PySem.boot_len (pa_cons (pv 0) pa_nil)) (pe_callB call_len_seq rfl T.len PySem.boot_len (pa_cons (pv 1) pa_nil)) (nomark _))))) pss_never pss_nil)
      (pss_cons (ps_for PassesOwn.never rfl (pi_list (pv 0)) (pg_name (i := 2) scBk.nd rfl (Or.inl rfl))
        (pss_cons (ps_if (PW.pt (pw_or (pt_not (pt_val (pe_callB call_isi rfl T.isi PyProof.Rows.boot_isinstance (pa_cons (pv 2) (pa_cons (pe_bltn (v := .ty "tuple") rfl T.tuple PyProof.Rows.boot_tuple rfl) pa_nil)))))
          (pw_or1 (pt_cmpR op_ne (pe_callB call_len_seq rfl T.len PySem.boot_len (pa_cons (pv 2) pa_nil)) pe_int (nomark _))))) pss_never pss_nil)
        (pss_one (ps_if (PW.pt (pw_or (pt_not (pt_val (pe_callB call_isi rfl T.isi PyProof.Rows.boot_isinstance (pa_cons (pe_ix ix_tup (pv 2) pe_int (fun _ _ => rfl)) (pa_cons (pe_bltn (v := .ty "str") rfl T.str PyProof.Rows.boot_str rfl) pa_nil)))))
          (pw_or1 (pt_not (pt_val (pe_call G1 hr rfl D1.gl D1.fn.kp D1.bd .nil pass0 (pa_cons (pe_ix ix_tup (pv 2) pe_int (fun _ _ => rfl)) pa_nil))))))) pss_never pss_nil))))
      (pss_one (ps_ret (pe_cmpR (op_eqD hr.units) (pv 0) (pv 1) (nomark _))))), ?_⟩
    have lx := Paired.length hx
    have ly := Paired.length hy
    refine ⟨_, rfl, _, _, _, rfl, .of (.lst ha), .inl ⟨rfl, true, kit_list_list, true, rfl, iteF ?_⟩⟩
    refine ⟨_, rfl, a, _, rfl, .inl (SqL.of ha), _, rfl, b, _, rfl, .inl (SqL.of hb), rfl, false, by simp [lx, ly], iteF ?_⟩
    refine ⟨_, rfl, a, rfl, ⟨_, SqL.of ha⟩, for_list (K := K) (a := a) (xs := xs) (fun i σ H2 => ∃ s2, σ = [some (.ref a), some (.ref b), s2] ∧ H2 = H) ⟨none, rfl, rfl⟩ (fun i σ H2 _ ⟨_, _, s2⟩ => by rw [s2]; exact SqL.of ha) ?_ ?_⟩
    · rintro i x σ H2 hx2 ⟨s2, rfl, rfl⟩
      obtain ⟨r, hr1, ⟨q, rfl, hq⟩⟩ := hx.get hx2
      refine ⟨_, rfl, _, _, _, rfl, .of (.tup hq), .inl ⟨rfl, true, kit_tup_tup, true, rfl, iteF ?_⟩⟩
      refine ⟨_, rfl, q, _, rfl, .inr (SqT.of hq), rfl, false, rfl, iteF ?_⟩
      refine ⟨_, rfl, q, _, 0, _, rfl, rfl, SqT.of hq, rfl, _, _, _, rfl, .of (.str _), .inl ⟨rfl, true, kit_str_str, true, rfl, iteF ?_⟩⟩
      refine ⟨_, rfl, q, _, 1, _, rfl, rfl, SqT.of hq, rfl, r.2, rfl, true, rfl, iteF ?_⟩
      exact ⟨_, rfl, rfl⟩
    · rintro σ H2 ⟨s2, rfl, rfl⟩
      refine ⟨_, rfl, _, rfl, rowsD rs, rowsD rs, rows_dat (SqL.of ha) hx, rows_dat (SqL.of hb) hy, rowsD_can rs, rowsD_can rs, rowsD_depth rs, ?_⟩
      show Q (.bl (PyData.eqv (rowsD rs) (rowsD rs))) H2
      rw [eqv_rows, decide_eq_true rfl]
      exact k
/-! _law_text -/
def spText (K : PySem.W.Frag) : Sp := fun vs H Q _ => ∃ a xs rs, vs = [.ref a] ∧ SqL K H a xs ∧ RowsAt H xs rs ∧ rs.length ≤ 100 ∧ (∀ r ∈ rs, Q8.Num r.2) ∧ ∀ H', Same H H' → Q (.str (Tx.bankT rs)) H'
theorem scTx : FnScope ["_law_rows"] ["_law_rows"] (defScope sText) := ⟨rfl, rfl, rfl, by decide +kernel, rfl, by decide +kernel, by decide +kernel⟩
theorem ok_text {f : Addr} {fd : FuncData} (F : FunG K "_law_text" "_law_text" sText f fd .none) (T : Pl mg) : FnOk P w K mg base CX0 1 f fd ["_law_rows"] (spText K) := by
  refine F.ok scTx (fun vs H Q E h => ?_) (fun cdv A outer s H vs Q E hr h => ?_)
  · obtain ⟨_, _, _, rfl, _⟩ := h; rfl
  · obtain ⟨a, xs, rs, rfl, hS, hR, hl, hN, k⟩ := h
    refine ⟨_, pss_one (ps_ret (pe_bm PySem.F.plainAttrs_str PySem.F.slot_str_join PySem.F.type_str_join mt_join pe_str (pa_cons (pe_comp (Nc := ["_law_row_here"]) (fv := [none]) ⟨rfl, by decide +kernel, rfl, by decide +kernel, trivial, by decide +kernel, rfl, trivial⟩ rfl (pi_list (pv 0))
      (fun _ _ _ _ _ => pg_name (i := 0) (show (["_law_row_here"] : List Str).Nodup by decide +kernel) rfl (Or.inl rfl))
      (fun _ _ _ _ _ => pif_nil) (fun _ _ _ _ _ => pe_op op_add_str (pe_op op_add_str (pe_ix (ix_tupK (K := K) rfl) (pv 0) pe_int (fun _ _ => rfl)) pe_str) (pe_callTy call_str_int rfl T.str PyProof.Rows.boot_str (pa_cons (pe_ix (ix_tupK (K := K) rfl) (pv 0) pe_int (fun _ _ => rfl)) pa_nil)))) pa_nil))), ?_⟩
    have hlen := Paired.length hR
    refine ⟨rfl, _, rfl, a, rfl, ⟨_, hS⟩, fun p hp => ?_⟩
    refine comp_list (K := K) (a := a) (xs := xs) (fun i ys H2 => Same H H2 ∧ H2 p = some (.lst ys) ∧ ys = ((rs.take i).map Tx.rowT).map V.str) ⟨same_new hp, upd_same, rfl⟩ (fun i ys H2 h => ⟨h.1.seq hS, h.2.1⟩) ?_ ?_
    · rintro i x ys H2 hi hx ⟨sm, hy, rfl⟩
      obtain ⟨r, hr1, hr2⟩ := hR.get hx
      obtain ⟨q, rfl, hq⟩ := hr2.mono sm.tps
      have hn := hN r (List.mem_of_getElem? hr1)
      have rl := Q8.row_len hn
      have rl3 : (gs r.1 ++ (" " : Str)).length + (toString r.2 : Str).length ≤ 94 := by
        unfold Tx.rowT at rl
        rw [Str.length_append] at rl; exact rl
      have rl2 : (gs r.1).length + (" " : Str).length ≤ 94 := by
        rw [Str.length_append] at rl3; omega
      refine ⟨(Wk.refl _).set rfl, yes ?_⟩
      refine ⟨_, rfl, q, _, 0, _, rfl, rfl, SqT.of hq, rfl, _, _, rfl, rfl, Nat.le_trans rl2 (by decide), _, rfl, q, _, 1, _, rfl, rfl, SqT.of hq, rfl, r.2, rfl, Q8.num_log hn, _, _, rfl, rfl, Nat.le_trans rl3 (by decide), hy, ?_, nx hi ⟨sm.write hp, upd_same, ?_⟩⟩
      · refine Nat.lt_of_le_of_lt (m := 1000) ?_ (by decide)
        simp only [List.length_map, List.length_take]; omega
      · rw [take_snoc hr1]; simp [Tx.rowT]
    · rintro ys H2 ⟨sm, hy, rfl⟩
      rw [hlen, List.take_length] at hy
      refine ⟨_, p, rs.map Tx.rowT, rfl, rfl, SqL.of hy, Q8.join_ok (B := 94) (n := 100) (fun y hy => ?_) (by rw [List.length_map]; exact hl) (by decide +kernel) (by decide), k H2 sm⟩
      obtain ⟨r, hr, rfl⟩ := List.mem_map.mp hy
      exact Q8.row_len (hN r hr)
end
end K8

set_option Elab.async false
set_option linter.all false
set_option maxRecDepth 100000
set_option maxHeartbeats 4000000
namespace K8
open PySem L2
theorem figsN (c : Nat) : (!(!(Builtin.Str.occurrences ("0123456789" : Str) (sg c) 0 ("0123456789" : Str).length 1).isEmpty)) = !Tx.dig c := by rw [Q8.figs]
/-- what _law_number makes of a word -/
def numV (x : Str) : V := if Tx.isLong x = true then .int (Tx.val x) else .non
theorem num_none {x : Str} (h : Tx.isLong x = false) : numV x = .non := by unfold numV; rw [h]; rfl
theorem num_some {x : Str} (h : Tx.isLong x = true) : numV x = .int (Tx.val x) := by unfold numV; rw [h]; rfl
section
variable {P : Program} {w : World} {K : PySem.W.Frag} {mg : Str → Option Value} {base : Heap}
seal L2.PSs L2.PS L2.PE L2.PA L2.PT L2.PW
def spNumber : Sp := fun vs H Q _ => ∃ x : Str, vs = [.str x] ∧ x.length ≤ 1000000 ∧ Q (numV x) H
theorem scNu : FnScope ["_law_word", "_law_sign_here"] ["_law_word"] (defScope sNumber) := ⟨rfl, rfl, rfl, by decide +kernel, rfl, by decide +kernel, by decide +kernel⟩
theorem ok_number {f : Addr} {fd : FuncData} (F : FunG K "_law_number" "_law_number" sNumber f fd .none) (T : Pl mg) : FnOk P w K mg base CX0 1 f fd ["_law_word"] spNumber := by
  refine F.ok scNu (fun vs H Q E h => ?_) (fun cdv A outer s H vs Q E hr h => ?_)
  · obtain ⟨g, rfl, _⟩ := h; rfl
  · obtain ⟨x, rfl, hl, k⟩ := h
    refine ⟨_, pss_cons (ps_if (PW.pt (pw_or (pt_cmpR op_eq (pv 0) pe_str (nomark _)) (pw_or (pt_cmpR op_gt (pe_callB call_len_str rfl T.len PySem.boot_len (pa_cons (pv 0) pa_nil)) pe_int (nomark _))
        (pw_or1 (PW.pt (pw_and (pt_cmpR op_eq (pe_ix ix_str (pv 0) pe_int (fun _ _ => rfl)) pe_str (nomark _)) (pw_and1 (pt_cmpR op_gt (pe_callB call_len_str rfl T.len PySem.boot_len (pa_cons (pv 0) pa_nil)) pe_int (nomark _))))))))) (pss_one (ps_ret pe_non)) pss_nil)
      (pss_cons (ps_for PassesOwn.never rfl (pi_str (pv 0)) (pg_name (i := 1) scNu.nd rfl (Or.inl rfl))
        (pss_one (ps_if (pt_cmpR op_notin_str (pv 1) pe_str (by with_unfolding_all rfl)) (pss_one (ps_ret pe_non)) pss_nil)))
      (pss_one (ps_ret (pe_callTy call_intS rfl T.int PyProof.Rows.boot_int (pa_cons (pv 0) pa_nil))))), ?_⟩
    have hsz : x.length ≤ sizeLine := Nat.le_trans hl (by decide)
    have hl0 := Tx.sgs_len x
    have bad : Tx.isLong x = false → Q .non H := fun h => by rw [num_none h] at k; exact k
    have e00 : ("" : Str) = Str.empty := by decide +kernel
    have e0 : ("0" : Str) = ⟨#[48]⟩ := by decide +kernel
    refine ⟨_, rfl, rfl, _, rfl, ?_⟩
    refine ite2 (fun z => ?_) (fun z => ?_)
    · have e : x = Str.empty := (V.str.inj (of_decide_eq_true z)).trans e00
      exact bad (by rw [e]; decide +kernel)
    have l1 : 1 ≤ x.length := by
      rcases Nat.eq_zero_or_pos x.length with y | y
      · exfalso
        apply z
        apply decide_eq_true
        rw [e00]
        congr 1
        apply Tx.sgs_inj
        rw [List.length_eq_zero_iff.mp (hl0.trans y)]; rfl
      · exact y
    refine ⟨_, rfl, x, rfl, hsz, _, _, rfl, rfl, _, rfl, ?_⟩
    refine ite2 (fun z => ?_) (fun z => ?_)
    · have z' : (60 : Int) < (x.length : Int) := of_decide_eq_true z
      exact bad (by unfold Tx.isLong; rw [decide_eq_false (show ¬ x.length ≤ 60 by omega)]; simp)
    have l2 : x.length ≤ 60 := by
      have : ¬ (60 : Int) < (x.length : Int) := fun y => z (decide_eq_true y)
      omega
    obtain ⟨c, hc⟩ : ∃ c, (Tx.sgs x)[0]? = some c := by
      cases e1 : Tx.sgs x with
      | nil => rw [e1] at hl0; simp at hl0; omega
      | cons a r => exact ⟨a, rfl⟩
    have one : x.length = 1 → c = 48 → x = ("0" : Str) := fun h1 h2 => by
      rw [e0]
      apply Tx.sgs_inj
      match e1 : Tx.sgs x, hl0.trans h1 with
      | [a], _ =>
        rw [e1] at hc
        have : a = c := by simpa using hc
        rw [this, h2]
    refine ⟨_, rfl, x, 0, c, rfl, rfl, hsz, atI_nat (j := 0) hc, rfl, _, rfl, ?_⟩
    have fin : (c ≠ 48 ∨ x.length = 1) → (Tx.sgs x).all Tx.dig = true → Tx.isLong x = true := fun h1 h2 => by
      unfold Tx.isLong
      rw [decide_eq_true l1, decide_eq_true l2, h2, hc]
      rcases h1 with h | h
      · rw [decide_eq_true (show some c ≠ some 48 by simpa using h)]; simp
      · by_cases y : c = 48
        · rw [decide_eq_true (one h y)]; rfl
        · rw [decide_eq_true (show some c ≠ some 48 by simpa using y)]; simp
    have ite3 : c = 48 → 1 < x.length → Tx.isLong x = false := fun h1 h2 => by
      unfold Tx.isLong
      rw [hc, h1, decide_eq_false (show ¬ x = ("0" : Str) from fun e => by
        have h3 : ("0" : Str).length = 1 := by decide +kernel
        rw [e, h3] at h2; omega)]
      simp
    refine (fun (key : (c ≠ 48 ∨ x.length = 1) → _) => ite2 (fun z => ?g1) (fun z => iteF (key (.inl fun y => z (decide_eq_true (by rw [y, e0])))))) (fun hlead => ?g3)
    case g1 =>
      have c48 : c = 48 := by
        have h1 : V.str ⟨#[c]⟩ = V.str "0" := of_decide_eq_true z
        rw [e0] at h1
        have := congrArg (fun s : Str => s.cps.toList) (V.str.inj h1)
        simpa using this
      refine ⟨_, rfl, x, rfl, hsz, _, _, rfl, rfl, _, rfl, ?_⟩
      refine ite2 (fun y => ?_) (fun y => ?_)
      · have y' : (1 : Int) < (x.length : Int) := of_decide_eq_true y
        exact bad (ite3 c48 (by omega))
      exact key (.inr (by
        have : ¬ (1 : Int) < (x.length : Int) := fun w => y (decide_eq_true w)
        omega))
    case g3 =>
      refine ⟨_, rfl, x, rfl, for_str (x := x) (fun i σ H2 => ∃ z1, σ = [some (.str x), z1] ∧ H2 = H ∧ ∀ j d, j < i → (Tx.sgs x)[j]? = some d → Tx.dig d = true) ⟨none, rfl, rfl, fun j d hj => absurd hj (Nat.not_lt_zero _)⟩ ?_ ?_⟩
      · rintro i d σ H2 hd ⟨z1, rfl, rfl, hpre⟩
        have hd' : (Tx.sgs x)[i]? = some d := by rw [← hd]; exact Array.getElem?_toList
        refine ⟨_, rfl, _, _, rfl, rfl, _, rfl, ?_⟩
        rw [figsN]
        cases ed : Tx.dig d with
        | false =>
          refine iteT (bad ?_)
          have : (Tx.sgs x).all Tx.dig = false := by
            rw [List.all_eq_false]
            exact ⟨d, List.mem_of_getElem? hd', by rw [ed]; decide⟩
          unfold Tx.isLong
          rw [this, Bool.and_false]; rfl
        | true =>
          refine iteF ⟨_, rfl, rfl, fun j d' hj hd2 => ?_⟩
          by_cases y : j < i
          · exact hpre j d' y hd2
          · have ej : j = i := by omega
            subst ej
            rw [hd'] at hd2
            cases hd2
            exact ed
      · rintro σ H2 ⟨z1, rfl, rfl, hpre⟩
        have hall : (Tx.sgs x).all Tx.dig = true := by
          rw [List.all_eq_true]
          intro d hd
          obtain ⟨j, hj⟩ := List.getElem?_of_mem hd
          refine hpre j d ?_ hj
          have := (List.getElem?_eq_some_iff.mp hj).1
          have e : (Tx.sgs x).length = x.cps.size := by simp [Tx.sgs]
          omega
        have hL := fin hlead hall
        obtain ⟨v1, v2, v3⟩ := Tx.long_val hL
        rw [num_some hL] at k
        exact ⟨_, rfl, x, _, rfl, Nat.le_trans v2 (by decide), v1, k⟩
end
end K8

set_option Elab.async false
set_option linter.all false
set_option maxRecDepth 100000
set_option maxHeartbeats 4000000
namespace K8
open PySem L2
theorem rd_two {x g l : Str} (e : Txt.split x " " = [g, l]) : Tx.rdPart x = if Tx.isLong l = true then (if g = ("dry" : Str) then some (true, Tx.val l) else if g = ("wet" : Str) then some (false, Tx.val l) else none) else none := by
  unfold Tx.rdPart; rw [e]
theorem rd_not_two {x : Str} (h : ¬ ∃ g l, Txt.split x " " = [g, l]) : Tx.rdPart x = none ∧ (Txt.split x " ").length ≠ 2 := by
  refine ⟨?_, fun e => h ?_⟩
  · unfold Tx.rdPart
    split
    · rename_i g l e; exact absurd ⟨g, l, e⟩ h
    · rfl
  · match hq : Txt.split x " ", e with
    | [g, l], _ => exact ⟨g, l, rfl⟩
section
variable {P : Program} {w : World} {K : PySem.W.Frag} {mg : Str → Option Value} {base : Heap}
seal L2.PSs L2.PS L2.PE L2.PA L2.PT L2.PW
def spLRead : Sp := fun vs H Q _ => ∃ x : Str, vs = [.str x] ∧ x.length ≤ 50000 ∧
  ((Tx.rdText x).2 = true → ∀ p ys H', Same H H' → H p = none → H' p = some (.lst ys) → RowsAt H' ys (Tx.rdText x).1 → Q (.ref p) H') ∧
  ((Tx.rdText x).2 = false → ∀ H', Same H H' → Q (.int (Tx.rdText x).1.length) H')
theorem scLR : FnScope ["_law_text_here", "_law_rows", "_law_part", "_law_words"] ["_law_text_here"] (defScope sLRead) := ⟨rfl, rfl, rfl, by decide +kernel, rfl, by decide +kernel, by decide +kernel⟩
theorem ok_lread {f f1 : Addr} {fd fd1 : FuncData} (F : FunG K "_law_read" "_law_read" sLRead f fd .none) (T : Pl mg) (D1 : Df K mg "_law_number" sNumber ["_law_word"] f1 fd1) : FnOk P w K mg base CX0 2 f fd ["_law_text_here"] spLRead := by
  have G1 : FnOk P w K mg base CX0 1 f1 fd1 ["_law_word"] spNumber := ok_number D1.fn T
  refine F.ok scLR (fun vs H Q E h => ?_) (fun cdv A outer s H vs Q E hr h => ?_)
  · obtain ⟨g, rfl, _⟩ := h; rfl
  · obtain ⟨x, rfl, hl, kQ, kB⟩ := h
    refine ⟨_, pss_cons (ps_set (i := 1) scLR.nd rfl (Or.inl rfl) (pe_lst pa_nil))
      (pss_cons (ps_if (pt_cmpR op_eq (pv 0) pe_str (nomark _)) (pss_one (ps_ret (pv 1))) pss_nil)
      (pss_cons (ps_for PassesOwn.never rfl (pi_list (pe_bm PySem.F.plainAttrs_str PySem.F.slot_str_split PySem.F.type_str_split mt_split (pv 0) (pa_cons pe_str pa_nil))) (pg_name (i := 2) scLR.nd rfl (Or.inl rfl))
        (pss_cons (ps_set (i := 3) scLR.nd rfl (Or.inl rfl) (pe_bm PySem.F.plainAttrs_str PySem.F.slot_str_split PySem.F.type_str_split mt_split (pv 2) (pa_cons pe_str pa_nil)))
        (pss_cons (ps_if (PW.pt (pw_or (pt_cmpR op_ne (pe_callB call_len_seq rfl T.len PySem.boot_len (pa_cons (pv 3) pa_nil)) pe_int (nomark _))
            (pw_or (pt_cmpR op_notIn_seq (pe_ix ix_list (pv 3) pe_int (fun _ _ => rfl)) (pe_lst (pa_cons pe_str (pa_cons pe_str pa_nil))) (by with_unfolding_all rfl))
            (pw_or1 (pt_cmpR op_isN (pe_call G1 hr rfl D1.gl D1.fn.kp D1.bd .nil pass0 (pa_cons (pe_ix ix_list (pv 3) pe_int (fun _ _ => rfl)) pa_nil)) pe_non (nomark _))))))
          (pss_one (ps_ret (pe_callB call_len_seq rfl T.len PySem.boot_len (pa_cons (pv 1) pa_nil)))) pss_nil)
        (pss_one (ps_expr (pe_bm PySem.F.plainAttrs_list PySem.F.slot_list_append PySem.F.type_list_append mt_append (pv 1) (pa_cons (pe_tup (pa_cons (pe_ix ix_list (pv 3) pe_int (fun _ _ => rfl)) (pa_cons (pe_call G1 hr rfl D1.gl D1.fn.kp D1.bd .nil pass0 (pa_cons (pe_ix ix_list (pv 3) pe_int (fun _ _ => rfl)) pa_nil)) pa_nil))) pa_nil)))))))
      (pss_one (ps_ret (pv 1))))), ?_⟩
    refine ⟨Nat.zero_le _, fun p0 hp0 => ?_⟩
    have s0 := same_new (o := .lst []) hp0
    have h00 : upd H p0 (.lst []) p0 = some (.lst []) := upd_same
    generalize upd H p0 (.lst []) = H0 at s0 h00 ⊢
    have e0 : ("" : Str) = Str.empty := by decide +kernel
    refine ⟨_, rfl, rfl, _, rfl, ?_⟩
    refine ite2 (fun z => ?_) (fun z => ?_)
    · have ex : x = Str.empty := (V.str.inj (of_decide_eq_true z)).trans e0
      have er : Tx.rdText x = ([], true) := by unfold Tx.rdText; rw [if_pos ex]
      rw [er] at kQ
      exact ⟨_, rfl, kQ rfl p0 [] _ s0 hp0 h00 .nil⟩
    have ex : x ≠ Str.empty := fun y => z (decide_eq_true (by rw [y, e0]))
    have er : Tx.rdText x = Tx.rdAll (Txt.split x ", ") := by unfold Tx.rdText; rw [if_neg ex]
    rw [er] at kQ kB
    have wle := PyProof.Rows.split_le x (", " : Str)
    have wsh : ∀ (i : Nat) q, (Txt.split x ", ")[i]? = some q → q.length ≤ x.length := fun i q hq => PyProof.Rows.part_short (List.mem_of_getElem? hq)
    generalize hps : Txt.split x ", " = ps at *
    refine ⟨_, rfl, rfl, x, ", ", rfl, rfl, by decide +kernel, Nat.le_trans (Nat.add_le_add_right hl 2) (by decide), fun pp hpp => ?_⟩
    rw [hps]
    have npp : p0 ≠ pp := fun e => by rw [← e, h00] at hpp; cases hpp
    have s1 := s0.trans (same_new (o := .lst (ps.map V.str)) hpp)
    have hpl : upd H0 pp (.lst (ps.map V.str)) pp = some (.lst (ps.map V.str)) := upd_same
    have h01 : upd H0 pp (.lst (ps.map V.str)) p0 = some (.lst []) := by rw [upd_ne npp]; exact h00
    generalize upd H0 pp (.lst (ps.map V.str)) = H1 at s1 hpl h01 ⊢
    refine ⟨pp, rfl, ⟨_, SqL.of hpl⟩, for_list (K := K) (a := pp) (xs := ps.map V.str) (fun i σ H2 => ∃ ys rs z2 z3, σ = [some (.str x), some (.ref p0), z2, z3] ∧ Same H H2 ∧ H2 p0 = some (.lst ys) ∧ H2 pp = some (.lst (ps.map V.str)) ∧ RowsAt H2 ys rs ∧ rs.length = i ∧ ∀ (j : Nat) q, j < i → ps[j]? = some q → Tx.rdPart q = rs[j]?)
      ⟨[], [], none, none, rfl, s1, h01, hpl, .nil, rfl, fun j q hj => absurd hj (Nat.not_lt_zero _)⟩ (fun i σ H2 _ ⟨_, _, _, _, _, _, _, h, _⟩ => SqL.of h) ?_ ?_⟩
    · rintro i xv σ H2 hx ⟨ys, rs, z2, z3, rfl, sm, hy, hpp2, hR, hlen, hpre⟩
      rw [List.getElem?_map] at hx
      obtain ⟨q, hq, rfl⟩ := Option.map_eq_some_iff.mp hx
      have hi : i < ps.length := (List.getElem?_eq_some_iff.mp hq).1
      have hql := wsh i q hq
      have ly := Paired.length hR
      refine ⟨_, rfl, rfl, q, " ", rfl, rfl, by decide +kernel, Nat.le_trans (Nat.add_le_add_right (Nat.le_trans hql hl) 2) (by decide), fun pw hpw => ?_⟩
      have t1 := same_new (o := .lst ((Txt.split q " ").map V.str)) hpw
      have hw : upd H2 pw (.lst ((Txt.split q " ").map V.str)) pw = some (.lst ((Txt.split q " ").map V.str)) := upd_same
      generalize upd H2 pw (.lst ((Txt.split q " ").map V.str)) = H3 at t1 hw ⊢
      have bad : Tx.rdPart q = none → ∀ H4, Same H2 H4 → Q (.int ys.length) H4 := fun hb H4 s4 => by
        have hbad := Q8.rdAll_snoc ps i q hq (fun j q' hj hq' => by
          rw [hpre j q' hj hq']
          intro e
          rw [List.getElem?_eq_none_iff] at e
          omega) hb
        have := kB hbad.1 H4 (sm.trans s4)
        rw [hbad.2, ← hlen, ← ly] at this
        exact this
      by_cases h2 : ∃ g l, Txt.split q " " = [g, l]
      case neg =>
        obtain ⟨hb, hlen2⟩ := rd_not_two h2
        refine ⟨_, rfl, pw, _, rfl, .inl (SqL.of hw), rfl, true, ?_, iteT ?_⟩
        · rw [List.length_map]
          have : ¬ V.int ((Txt.split q " ").length : Int) = V.int 2 := fun e => hlen2 (by have := V.int.inj e; omega)
          rw [decide_eq_false this]; rfl
        · exact ⟨_, rfl, p0, _, rfl, .inl (SqL.of (t1 _ _ hy)), bad hb H3 t1⟩
      obtain ⟨g, l, e2⟩ := h2
      have hrd := rd_two e2
      rw [e2] at hw
      have hw : H3 pw = some (.lst [.str g, .str l]) := hw
      have ll : l.length ≤ 1000000 := Nat.le_trans (Nat.le_trans (PyProof.Rows.part_short (x := q) (y := " ") (a := l) (by rw [e2]; simp)) (Nat.le_trans hql hl)) (by decide)
      refine ⟨_, rfl, pw, _, rfl, .inl (SqL.of hw), rfl, false, rfl, iteF ?_⟩
      refine ⟨_, rfl, pw, _, 0, _, rfl, rfl, SqL.of hw, rfl, by show 2 ≤ sizeLine; decide, fun pd hpd => ?_⟩
      have t2 := t1.trans (same_new (o := .lst [V.str "dry", .str "wet"]) hpd)
      have hw4 := same_new (o := .lst [V.str "dry", .str "wet"]) hpd _ _ hw
      have hd4 : upd H3 pd (.lst [V.str "dry", .str "wet"]) pd = some (.lst [V.str "dry", .str "wet"]) := upd_same
      generalize upd H3 pd (.lst [V.str "dry", .str "wet"]) = H4 at t2 hw4 hd4 ⊢
      refine ⟨pd, _, rfl, .inl (SqL.of hd4), rfl, rfl, !Q8.isGr g, ?_, ?_⟩
      · rw [if_pos rfl, Q8.inGr]
      cases eg : Q8.isGr g with
      | false =>
        have hb : Tx.rdPart q = none := by
          rw [hrd]
          unfold Q8.isGr at eg
          simp only [Bool.or_eq_false_iff, decide_eq_false_iff_not] at eg
          rw [if_neg eg.1, if_neg eg.2]; simp
        exact iteT ⟨_, rfl, p0, _, rfl, .inl (SqL.of (t2 _ _ hy)), bad hb H4 t2⟩
      | true =>
        refine iteF ?_
        refine ⟨_, rfl, pw, _, 1, _, rfl, rfl, SqL.of hw4, rfl, l, rfl, ll, rfl, _, rfl, ?_⟩
        cases el : Tx.isLong l with
        | false =>
          rw [num_none el]
          have hb : Tx.rdPart q = none := by rw [hrd, el]; rfl
          exact iteT ⟨_, rfl, p0, _, rfl, .inl (SqL.of (t2 _ _ hy)), bad hb H4 t2⟩
        | true =>
          rw [num_some el]
          refine iteF ?_
          refine ⟨_, rfl, .inl ⟨rfl, _, SqL.of (t2 _ _ hy)⟩, _, rfl, pw, _, 0, _, rfl, rfl, SqL.of hw4, rfl, _, rfl, pw, _, 1, _, rfl, rfl, SqL.of hw4, rfl, l, rfl, ll, ?_⟩
          rw [num_some el]
          refine ⟨by show 2 ≤ sizeLine; decide, fun Z hZ => ?_⟩
          have hg : ∃ b : Bool, g = gs b ∧ Tx.rdPart q = some (b, Tx.val l) := by
            unfold Q8.isGr at eg
            simp only [Bool.or_eq_true, decide_eq_true_eq] at eg
            rcases eg with z | z
            · exact ⟨true, z, by rw [hrd, el, if_pos rfl, if_pos z]⟩
            · refine ⟨false, z, ?_⟩
              rw [hrd, el, if_pos rfl, if_neg (by rw [z]; exact Tx.gs_ne.2.2), if_pos z]
          obtain ⟨b, rfl, hr2⟩ := hg
          have t3 := t2.trans (same_new (o := .tup [.str (gs b), .int (Tx.val l)]) hZ)
          have hy5 := t3 _ _ hy
          have npp5 : pp ≠ p0 := npp.symm
          refine ⟨p0, ys, _, rfl, rfl, hy5, Nat.lt_of_le_of_lt (m := 100000) (by omega) (by decide), ?_⟩
          refine ⟨ys ++ [.ref Z], rs ++ [(b, Tx.val l)], _, _, rfl, (sm.trans t3).write hp0, upd_same, by rw [upd_ne npp5]; exact t3 _ _ hpp2, ((hR.mono t3.tps).mono (tps_lst hy5)).snoc ⟨Z, rfl, tps_lst hy5 _ _ upd_same⟩, by rw [List.length_append, hlen]; rfl, fun j q' hj hq' => ?_⟩
          by_cases y : j < i
          · rw [List.getElem?_append_left (by omega)]
            exact hpre j q' y hq'
          · have ej : j = i := by omega
            subst ej
            rw [hq] at hq'
            cases hq'
            rw [hr2, List.getElem?_append_right (by omega), hlen]
            simp
    · rintro σ H2 ⟨ys, rs, z2, z3, rfl, sm, hy, hpp2, hR, hlen, hpre⟩
      rw [List.length_map] at hlen hpre
      have hgood := Q8.rdAll_good ps rs hlen.symm fun j q hq => hpre j q (List.getElem?_eq_some_iff.mp hq).1 hq
      rw [hgood] at kQ
      exact ⟨_, rfl, kQ rfl p0 ys H2 sm hp0 hy hR⟩
end
end K8

set_option Elab.async false
set_option linter.all false
set_option maxRecDepth 100000
/-! L7f: try whose one row is an assignment -/
namespace L2
open PySem PySem.Spec PyProof.Rows
section
variable {X : Cx} {ce : Expr} {tc : XK → TE} {B n x : Str} {aB : Addr} {iE i : Nat} {np hpos epos tpos pos' : Pos} {b0 : Stmt} {suite : List Stmt} {ts : TS}
/-- try: x = f(..) / except B as n: suite -/
theorem ps_tryA (hc : X.calm = true) (hN : X.N.Nodup) (hi : X.N[iE]? = some n) (hl : X.env.scope.names.lookup n = some .local) (hix : X.N[i]? = some x) (hlx : X.env.scope.names.lookup x = some .local) (hgB : Gl X B) (hmB : X.mg B = some (.ref aB)) (cB : Catch X.K aB) (hce : PEx X ce tc) (hs : ∀ e, PSs (X.caught e) (b0 :: suite) ts)
    (hstk : X.stack = X.env :: X.outer := by rfl) (hf : X.env.frame = some X.env.locals := by rfl) (hsw : swapsWith ce (some (.Name x pos')) epos.line X.env = pure false := by rfl) (hdb : (B == ("__debug__" : Str)) = false := by decide) :
    PS X (.Try [.Assign [.Name x pos'] ce epos] [.ExceptHandler (some (.Name B np)) (some n) (b0 :: suite) hpos] [] [] tpos) (tTry X.K aB iE tc (fun σ v => σ.set i (some v)) ts) := by
  intro pins s σ H D I h
  refine wpAny_Try_except ?_
  have hb : wpAny (model X.prog X.w) X.A (execs [.Assign [.Name x pos'] ce epos] X.env) (fun fl s1 => fl = .next ∧ ∃ v H1, Inv X pins (σ.set i (some v)) H1 s1 ∧ D.nx (σ.set i (some v)) H1) (fun e s₁ => wpAny (model X.prog X.w) X.A (noteFrame e X.env) (fun _ s₂ => wpAny (model X.prog X.w) X.A (setFlight e none) (fun _ s₃ =>
      wpAny (model X.prog X.w) X.A (handleBy e X.env [.ExceptHandler (some (.Name B np)) (some n) (b0 :: suite) hpos]) (SP X pins D) X.xe s₃) X.xe s₂) X.xe s₁) s := by
    refine wpAny_execs_cons (wpAny_mono (wpAny_Assign_Name (Q := fun fl s1 => fl = .next ∧ ∃ v H1, Inv X pins (σ.set i (some v)) H1 s1 ∧ D.nx (σ.set i (some v)) H1) (wpAny_mono (hce _ _ pins s σ H _ I h fun H1 s1 e s' I1 z => try_lands hc hN hi hl hstk hf hgB hmB cB hs hdb I1 z) (fun v s1 ⟨y, H1, I1, r1, q1⟩ => ?_) fun _ _ z => z) hsw) (fun fl s1 z => ?_) fun _ _ z => z)
    · exact store_ok I1 hN hix (.inl hlx) r1 (fun s2 I2 => ⟨rfl, _, H1, I2, q1⟩) (.inr hlx)
    obtain ⟨rfl, z⟩ := z
    exact wpAny_execs_nil ⟨rfl, z⟩
  refine wpAny_mono hb (fun fl s1 z => ?_) fun _ _ z => z
  obtain ⟨rfl, v, H1, I1, q⟩ := z
  exact wpAny_execs_nil ⟨_, H1, I1, q⟩
end
end L2

set_option Elab.async false
set_option linter.all false
set_option maxRecDepth 100000
set_option maxHeartbeats 4000000
namespace K8
open PySem L2
theorem look1 (nm : Str) (v : V) : ([(nm, v)] : List (Str × V)).lookup nm = some v := by simp [List.lookup]
section
variable {P : Program} {w : World} {K : PySem.W.Frag} {mg : Str → Option Value} {base : Heap}
theorem kit_self {a : Addr} : PySem.W.kitOne K (.ref a) (.ref a) = some true := by
  unfold PySem.W.kitOne
  rw [if_pos (by simp)]
/-- the refusal NoText, and what it is none of, as the top has made them -/
structure Od (K : PySem.W.Frag) (mg : Str → Option Value) (aX aB e1 e2 e3 e4 e5 e6 : Addr) : Prop where
  glX : mg "NoText" = some (.ref aX)
  glB : mg "BankError" = some (.ref aB)
  g1 : mg "NoGround" = some (.ref e1)
  g2 : mg "NoHeirs" = some (.ref e2)
  g3 : mg "NoLength" = some (.ref e3)
  g4 : mg "Odd" = some (.ref e4)
  g5 : mg "OffBank" = some (.ref e5)
  g6 : mg "Uneven" = some (.ref e6)
  c : Catch K aB
  mro : PySem.W.mroIn K aX (.ref aB) = some true
  exc : ExcC K aX
  non : PySem.W.kitAny K (.ref aX) [.ref e1, .ref e2, .ref e3, .ref e4, .ref e5, .ref e6] = some false
  ver : PySem.W.kitOne K (.ref aX) (.type "ValueError") = some true
  hd : PySem.W.hasDictIn K aX = true
  na : NoAttr K aX "place"
seal L2.PSs L2.PS L2.PE L2.PA L2.PT L2.PW
/-- what is told of a refusal -/
def rfd (n : Int) : HO := .tup [.str "refused", .int n]
def spAsked (K : PySem.W.Frag) : Sp := fun vs H Q _ => ∃ v, vs = [v] ∧
  ((∃ x : Str, v = .str x ∧ x.length ≤ 50000 ∧
      ((Tx.rdText x).2 = true → ∀ p ys H', Same H H' → H p = none → H' p = some (.lst ys) → RowsAt H' ys (Bk.tidy (Tx.rdText x).1) → Q (.ref p) H') ∧
      ((Tx.rdText x).2 = false → ∀ p H', Same H H' → H' p = some (rfd (Tx.rdText x).1.length) → Q (.ref p) H')) ∨
   (Q8.NonS H v ∧ ∀ p H', Same H H' → H' p = some (rfd 0) → Q (.ref p) H'))
theorem scAs : FnScope ["_law_thing", "_law_caught", "_law_found", "e", "_law_good"] ["_law_thing"] (defScope sAsked) := ⟨rfl, rfl, rfl, by decide +kernel, rfl, by decide +kernel, by decide +kernel⟩
theorem ok_asked {kR : Nat} {f fR aX aB e1 e2 e3 e4 e5 e6 : Addr} {fd fdR : FuncData} (F : FunG K "_law_asked" "_law_asked" sAsked f fd .none) (T : Pl mg) (R : Od K mg aX aB e1 e2 e3 e4 e5 e6)
    (gR : mg "read" = some (.ref fR)) (kpR : PySem.W.keepIn K (.ref fR) = true) (bR : Binds K fdR ["text"] []) (GR : FnOk P w K mg base (CXE P w) kR fR fdR ["text"] (Q8.spRead K aX)) :
    FnOk P w K mg base CX0 (kR + 1) f fd ["_law_thing"] (spAsked K) := by
  refine F.ok scAs (fun vs H Q E h => ?_) (fun cdv A outer s H vs Q E hr h => ?_)
  · obtain ⟨_, rfl, _⟩ := h; rfl
  · obtain ⟨v, rfl, h⟩ := h
    obtain ⟨tT, dT, pR, pG⟩ : ∃ t, PSs (cxOf CX0 P w K mg base ["_law_thing", "_law_caught", "_law_found", "e", "_law_good"] "_law_asked" (defScope sAsked) f cdv A outer s H E).nox ((defBody sAsked).drop 3) t ∧
        (∀ H2 e dx n y z, Same H H2 → H2 e = some (ExcO e (.ref aX) (some dx)) → H2 dx = some (.xd [("place", .int n)]) → (∀ p H', Same H H' → H' p = some (rfd n) → Q (.ref p) H') → t { nx := fun _ H' => Q .non H', rt := Q } [some v, some (.ref e), y, z, none] H2) ∧
        (∀ H2 p, Q (.ref p) H2 → t { nx := fun _ H' => Q .non H', rt := Q } [some v, some .non, some (.ref p), none, none] H2) := by
      refine ⟨_, pss_cons (ps_if (pt_cmpR op_isN (pv 1) pe_non (nomark _)) (pss_one (ps_ret (pv 2))) pss_nil)
        (pss_cons (ps_set (i := 4) scAs.nd rfl (Or.inl rfl) (pe_and (pe_callB call_isi rfl T.isi PyProof.Rows.boot_isinstance (pa_cons (pv 1) (pa_cons (pe_glob (v := .ref aX) rfl R.glX rfl) pa_nil)))
            (pe_one (pe_callB call_isi rfl T.isi PyProof.Rows.boot_isinstance (pa_cons (pv 1) (pa_cons (pe_bltn (v := .ty "ValueError") rfl T.verr PyProof.Rows.Boot.«ValueError» rfl) pa_nil))))))
        (pss_cons (ps_if (PW.pt (pw_or (pt_not (pt_val (pv 4))) (pw_or1 (pt_val (pe_callB call_isi rfl T.isi PyProof.Rows.boot_isinstance (pa_cons (pv 1) (pa_cons (pe_tup (pa_cons (pe_glob (v := .ref e1) rfl R.g1 rfl) (pa_cons (pe_glob (v := .ref e2) rfl R.g2 rfl) (pa_cons (pe_glob (v := .ref e3) rfl R.g3 rfl)
              (pa_cons (pe_glob (v := .ref e4) rfl R.g4 rfl) (pa_cons (pe_glob (v := .ref e5) rfl R.g5 rfl) (pa_cons (pe_glob (v := .ref e6) rfl R.g6 rfl) pa_nil))))))) pa_nil))))))) pss_never pss_nil)
        (pss_one (ps_ret (pe_tup (pa_cons pe_str (pa_cons (pe_excF (pv 1)) pa_nil))))))), fun H2 e dx n y z s2 hE hX k => ?_, fun H2 p q => ?_⟩
      · refine ⟨_, rfl, rfl, false, rfl, iteF ?_⟩
        have od : OdOk H2 (some dx) := .inr ⟨dx, _, rfl, hX⟩
        refine ⟨_, rfl, _, _, _, rfl, .exc hE od R.exc, .inl ⟨rfl, true, kit_self, true, rfl, iteT ?_⟩⟩
        refine ⟨_, rfl, _, _, _, rfl, .exc hE od R.exc, .inl ⟨rfl, true, R.ver, ?_⟩⟩
        refine ⟨_, rfl, true, rfl, iteF ?_⟩
        refine ⟨_, rfl, by show 6 ≤ sizeLine; decide, fun pt hpt => ?_⟩
        have t5 := same_new (o := .tup [V.ref e1, .ref e2, .ref e3, .ref e4, .ref e5, .ref e6]) hpt
        have hE5 := t5 _ _ hE
        have hX5 := t5 _ _ hX
        have g5 : upd H2 pt (.tup [V.ref e1, .ref e2, .ref e3, .ref e4, .ref e5, .ref e6]) pt = some (.tup [V.ref e1, .ref e2, .ref e3, .ref e4, .ref e5, .ref e6]) := upd_same
        generalize upd H2 pt (.tup [V.ref e1, .ref e2, .ref e3, .ref e4, .ref e5, .ref e6]) = H5 at t5 hE5 hX5 g5 ⊢
        have od5 : OdOk H5 (some dx) := .inr ⟨dx, _, rfl, hX5⟩
        refine ⟨_, _, _, rfl, .exc hE5 od5 R.exc, .inr ⟨pt, _, false, rfl, g5, rfl, R.non, false, rfl, iteF ?_⟩⟩
        refine ⟨_, rfl, e, aX, dx, _, _, rfl, hE5, hX5, R.exc, R.hd, R.na, look1 _ _, by show 2 ≤ sizeLine; decide, fun p hp => ?_⟩
        exact k p _ ((s2.trans t5).trans (same_new hp)) upd_same
      · exact ⟨_, rfl, rfl, true, rfl, iteT ⟨_, rfl, q⟩⟩
    refine ⟨_, pss_cons (ps_set (i := 1) scAs.nd rfl (Or.inl rfl) pe_non)
      (pss_cons (ps_set (i := 2) scAs.nd rfl (Or.inl rfl) pe_non)
      (pss_cons (ps_tryA (iE := 3) (i := 2) rfl scAs.nd rfl rfl rfl rfl rfl R.glB R.c (pex_call GR hr rfl gR kpR bR .nil (fun ξ => pa_cons (pv 0) pa_nil)) (fun e => pss_one (ps_set (i := 1) scAs.nd rfl (Or.inl rfl) (pv 3)))) dT)), ?_⟩
    refine ⟨_, rfl, v, rfl, ?_⟩
    rcases h with ⟨x, rfl, hl, kQ, kE⟩ | ⟨hn, kE⟩
    · refine .inl ⟨x, rfl, hl, fun hg p ys H1 s1 hp e1 hR => pG H1 p (kQ hg p ys H1 s1 hp e1 hR), fun hb H1 dx s1 hdx hd => ⟨⟨aX, rfl, R.mro⟩, fun e he => ⟨_, rfl, ?_⟩⟩⟩
      exact pR _ e dx _ _ _ (s1.trans (same_new he)) upd_same (same_new he _ _ hd) (kE hb)
    · refine .inr ⟨hn, fun H1 dx s1 hdx hd => ⟨⟨aX, rfl, R.mro⟩, fun e he => ⟨_, rfl, ?_⟩⟩⟩
      exact pR _ e dx _ _ _ (s1.trans (same_new he)) upd_same (same_new he _ _ hd) kE
/-! _law_refused -/
def spRfd : Sp := fun vs H Q _ => ∃ p n, vs = [.ref p, .int n] ∧ H p = some (rfd n) ∧ Q (.bl true) H
theorem scRf : FnScope ["_law_found", "_law_place"] ["_law_found", "_law_place"] (defScope sRfd) := ⟨rfl, rfl, rfl, by decide +kernel, rfl, by decide +kernel, by decide +kernel⟩
theorem ok_rfd {f f1 : Addr} {fd fd1 : FuncData} (F : FunG K "_law_refused" "_law_refused" sRfd f fd .none) (T : Pl mg) (D1 : Df K mg "_law_whole" sLWh ["_law_found"] f1 fd1) : FnOk P w K mg base CX0 2 f fd ["_law_found", "_law_place"] spRfd := by
  have G1 : FnOk P w K mg base CX0 1 f1 fd1 ["_law_found"] spLWh := ok_lwh D1.fn T
  refine F.ok scRf (fun vs H Q E h => ?_) (fun cdv A outer s H vs Q E hr h => ?_)
  · obtain ⟨_, _, rfl, _⟩ := h; rfl
  · obtain ⟨p, n, rfl, hp, k⟩ := h
    refine ⟨_, pss_cons (ps_if (PW.pt (pw_or (pt_not (pt_val (pe_callB call_isi rfl T.isi PyProof.Rows.boot_isinstance (pa_cons (pv 0) (pa_cons (pe_bltn (v := .ty "tuple") rfl T.tuple PyProof.Rows.boot_tuple rfl) pa_nil)))))
        (pw_or (pt_cmpR op_ne (pe_callB call_len_seq rfl T.len PySem.boot_len (pa_cons (pv 0) pa_nil)) pe_int (nomark _))
        (pw_or1 (pt_cmpR op_ne (pe_ix ix_tup (pv 0) pe_int (fun _ _ => rfl)) pe_str (nomark _)))))) pss_never pss_nil)
      (pss_one (ps_ret (pe_and (pe_call G1 hr rfl D1.gl D1.fn.kp D1.bd .nil pass0 (pa_cons (pe_ix ix_tup (pv 0) pe_int (fun _ _ => rfl)) pa_nil)) (pe_one (pe_cmpR op_eq (pe_ix ix_tup (pv 0) pe_int (fun _ _ => rfl)) (pv 1) (nomark _)))))), ?_⟩
    have hp : H p = some (.tup [.str "refused", .int n]) := hp
    refine ⟨_, rfl, _, _, _, rfl, .of (.tup hp), .inl ⟨rfl, true, kit_tup_tup, true, rfl, iteF ?_⟩⟩
    refine ⟨_, rfl, p, _, rfl, .inr (SqT.of hp), rfl, false, rfl, iteF ?_⟩
    refine ⟨_, rfl, p, _, 0, _, rfl, rfl, SqT.of hp, rfl, rfl, false, by rw [decide_eq_true rfl]; rfl, iteF ?_⟩
    refine ⟨_, rfl, p, _, 1, _, rfl, rfl, SqT.of hp, rfl, n, rfl, true, rfl, iteT ?_⟩
    refine ⟨_, rfl, p, _, 1, _, rfl, rfl, SqT.of hp, rfl, _, rfl, rfl, ?_⟩
    rw [decide_eq_true rfl]
    exact k
end
end K8

set_option Elab.async false
set_option linter.all false
set_option maxRecDepth 100000
/-! L7g: expressions in a state with a token given out: text.replace of two constants, in a comprehension -/
namespace L2
open PySem PySem.Spec PyProof.Rows
theorem thnT {α : Type} {t : Sem α} {Q Q' : α → Shared → Prop} {M : Model} {A : Around} {E : Value → Shared → Prop} {s : Shared} (hn : 1 ≤ s.toks) (h : wpAny M A t Q E s) (hQ : ∀ a s, 1 ≤ s.toks → Q a s → Q' a s) : wpAny M A t Q' E s :=
  wpAny_mono (wpAny_toks_of hn h) (fun a s x => hQ a s x.1 x.2) fun _ _ x => x.2
/-- an expression, where a token has been given out -/
def PEt (X : Cx) (e : Expr) (t : TE) : Prop := ∀ (pins : List (Addr × Obj)) (s : Shared) (σ : St) (H : Hp) (Q : VK), 1 ≤ s.toks → Inv X pins σ H s → t σ H Q → wpAny (model X.prog X.w) X.A (eval e X.env) (EP X pins σ Q) X.xe s
theorem PE.t {X : Cx} {e : Expr} {t : TE} (h : PE X e t) : PEt X e t := fun pins s σ H Q _ I q => h pins s σ H Q I q
theorem pet_op {X : Cx} {a b : Expr} {ta tb : TE} {pos : Pos} {op : Operator} {r : R2} (ho : OpR X (binaryOp op) r) (ha : PEt X a ta) (hb : PEt X b tb) : PEt X (.BinOp a op b pos) (tOp r ta tb) := by
  intro pins s σ H Q t0 I h
  refine wpAny_BinOp (thnT t0 (ha pins s σ H _ t0 I h) fun v s1 t1 ⟨x, H1, I1, r1, q1⟩ => ?_)
  refine thn (hb pins s1 σ H1 _ t1 I1 q1) fun u s2 ⟨y, H2, I2, r2, q2⟩ => ?_
  exact ho pins s2 σ H2 x y v u Q I2 r1 r2 q2
/-- "..".m(e), the constant gives out a token -/
theorem pe_bmT {X : Cx} {T : String} {name : Str} {id : String} {z : Str} {kz : Nat} {pz apos cpos : Pos} {e : Expr} {te : TE} {r : V → List V → Hp → VK → Prop} (pa : PlainAttrs T) (slot : Slot T name id) (hty : typeOf (.builtin id) = pure (.type "method_descriptor")) (hm : MtR X id r) (ha : PEt X e te)
    (hbase : attributeBase (.Constant (.str z) kz pz) name X.env (eval (.Constant (.str z) kz pz) X.env) = eval (.Constant (.str z) kz pz) X.env := by rfl)
    (hfew : ((backTo cpos (starEach [e] X.env)).all (fun x => !x.1) && (backToKw cpos (keywordEach [] X.env)).all (fun x => x.1.isSome)
      && decide (([e] : List Expr).length + ([] : List Keyword).length + (if ([] : List Keyword).isEmpty then 0 else 1) < 30)) = true := by rfl)
    (hline : (apos.endLine == cpos.line) = true := by rfl) (hs : starEach [e] X.env = [(false, eval e X.env)] := by rfl) :
    PE X (.Call (.Attribute (.Constant (.str z) kz pz) name apos) [e] [] cpos) (tBM X.K T r (tC (.str z)) (tCons te tNil)) := by
  intro pins s σ H Q I h
  refine wpAny_Call_method_late hbase hfew hline rfl (Calls.Constant_str ?_)
  have I1 := I.tok (s.toks + 1)
  obtain ⟨ty, q1⟩ := h
  obtain ⟨h1, h2⟩ := tyV_is I1 (show RelV (.str z) (.str z s.toks) from ⟨_, rfl⟩) ty
  refine ⟨T, id, pa, slot, hty, h1, h2, ?_⟩
  rw [hs]
  refine Calls.callWith_builtin rfl (Calls.evalArgs_plain ?_)
  refine Calls.spliced_cons (thn (ha pins _ σ H _ (Nat.le_add_left 1 _) I1 q1) fun u s2 ⟨x, H2, I2, r2, q2⟩ => Calls.spliced_nil ?_)
  exact hm pins s2 σ H2 (.str z) [x] _ [u] Q I2 ⟨_, rfl⟩ (.cons r2 .nil) q2
def tRep (to : TE) (y z : Str) : TE := fun σ H Q => to σ H fun v H1 => ∃ x, v = .str x ∧ x.length ≤ 1048576 ∧ Q (.str (Txt.replace x y z)) H1
/-- o.replace("..", ".."), two constants -/
theorem pet_rep {X : Cx} {o : Expr} {to : TE} {y z : Str} {ky kz : Nat} {py pz apos cpos : Pos} (ho : PE X o to) (hyz : (y == z) = false := by decide +kernel) (hz : z.length ≤ 14 := by decide +kernel)
    (hbase : attributeBase o "replace" X.env (eval o X.env) = eval o X.env := by rfl)
    (hfew : ((backTo cpos (starEach [.Constant (.str y) ky py, .Constant (.str z) kz pz] X.env)).all (fun x => !x.1) && (backToKw cpos (keywordEach [] X.env)).all (fun x => x.1.isSome)
      && decide (([.Constant (.str y) ky py, .Constant (.str z) kz pz] : List Expr).length + ([] : List Keyword).length + (if ([] : List Keyword).isEmpty then 0 else 1) < 30)) = true := by rfl)
    (hline : (apos.endLine == cpos.line) = true := by rfl) :
    PEt X (.Call (.Attribute o "replace" apos) [.Constant (.str y) ky py, .Constant (.str z) kz pz] [] cpos) (tRep to y z) := by
  intro pins s σ H Q t0 I h
  refine wpAny_Call_method_late hbase hfew hline rfl (thnT t0 (ho pins s σ H _ I h) fun v s1 t1 ⟨x, H1, I1, r1, q1⟩ => ?_)
  obtain ⟨x, rfl, hx, q⟩ := q1
  obtain ⟨t, rfl⟩ := r1
  refine ⟨"str", "str.replace", F.plainAttrs_str, F.slot_str_replace, F.type_str_replace, typeIs_str _ _ _, (fun _ e => nomatch e), ?_⟩
  refine Calls.callWith_builtin rfl (Calls.evalArgs_plain ?_)
  refine Calls.spliced_cons (Calls.Constant_str (k := ky) (pos := py) (Calls.spliced_cons (Calls.Constant_str (k := kz) (pos := pz) (Calls.spliced_nil ?_))))
  refine SC.replaceW (show s1.toks ≠ 0 by omega) (show s1.toks + 1 ≠ 0 by omega) (show s1.toks ≠ s1.toks + 1 by omega) hyz hx hz fun t' k => ?_
  exact ⟨.str (Txt.replace x y z), H1, (I1.tok _), ⟨t', rfl⟩, q⟩
section
variable {X : Cx} {scope : Scope} {cl : List (Str × Addr)} {Nc : List Str} {fv : List (Option Nat)} {elt tg iter : Expr} {ifs : List Expr} {pos : Pos} {g : TG} {tt : TT} {te : TE}
theorem comp_runT (O : CompOk X scope cl Nc fv) (hc : X.calm = true) (hg : ∀ s₀ H₀ C ex pn, PG (blk X scope cl Nc s₀ H₀ C ex pn) tg g) (ht : ∀ s₀ H₀ C ex pn, PIf (blk X scope cl Nc s₀ H₀ C ex pn) ifs tt)
    (he : ∀ s₀ H₀ C ex pn, PEt (blk X scope cl Nc s₀ H₀ C ex pn) elt te)
    {pins : List (Addr × Obj)} {σ : St} {H : Hp} {s : Shared} {J : It} {fp : List Addr} {it : Addr} {tn : Nat → Heap → Prop} {R : Addr → Hp → Prop} {RR : Value → Addr → Result → Shared → Prop} {E : Value → Shared → Prop}
    (t1 : 1 ≤ s.toks) (I : Inv X pins σ H s) (T : Turn X.prog X.w X.K tg J fp it tn) (st : tn 0 s.heap) (f : ∀ b ∈ fp, FpOk X pins H b)
    (h : ∀ p, H p = none → ∃ W : Nat → Nat → List V → Hp → Prop, (∃ m, W 0 m [] (upd H p (.lst []))) ∧ cTurn J g tt te (sig fv σ) p W (R p))
    (hRR : ∀ p C s' H', Inv X pins σ H' s' → R p H' → H' C = none → (∃ m, s'.heap.Ns C m) → C ≠ X.env.locals → X.s₀.heap.objs.size ≤ C → (∀ x c, X.env.cells.lookup x = some c → c ≠ C) → (∀ q ∈ X.pn ++ pins, q.1 ≠ C) → RR (.ref p) C (.ok .next) s') :
    wpAny (model X.prog X.w) X.A (newList []) (fun acc s₃ => wpAny (model X.prog X.w) X.A (newFunctionEnv scope X.env.globals cl [] X.env.qual none .none (some X.env)) (fun cenv s₄ =>
      codeAny (model X.prog X.w) X.A (.compStart (.ListComp elt [⟨tg, iter, ifs, 0⟩] scope pos) 0 (.ref it) acc { cenv with scope := relabel scope X.env }) (RR acc cenv.locals) s₄) E s₃) E s := by
  have hp : H s.heap.objs.size = none := I.hok.fresh (Nat.le_refl _)
  obtain ⟨W, ⟨m0, w0⟩, hT⟩ := h _ hp
  refine wpAny_newObj_type (wpAny_newFunctionEnv O.ncell (by intro y hy; simp at hy) (fun h₁ hns hsb => ?_) O.kind)
  dsimp only at hns hsb ⊢
  have I3 := I.lnew (ys := []) (its := []) (t' := s.toks) .nil (Nat.zero_le _)
  generalize hs3 : ({ s with heap := s.heap.push { cls := .type "list", data := .seq ([] : List Value).toArray }, toks := s.toks } : Shared) = s3 at I3
  have hheap : s3.heap = s.heap.push { cls := .type "list", data := .seq ([] : List Value).toArray } := by rw [← hs3]
  generalize hp0 : s.heap.objs.size = p at I3 w0 hT hp
  have hC : s3.heap.objs.size = p + 1 := by rw [hheap, Heap.size_push, hp0]
  generalize hCC : (s.heap.push { cls := Value.type "list", dict := none, data := .seq ([] : List Value).toArray }).objs.size = C at hns hsb ⊢
  have hC3 : s3.heap.objs.size = C := by rw [hheap]; exact hCC
  have old : ∀ b o, s3.heap.get? b = some o → h₁.get? b = some o := fun b o e => by
    have lt : b < C := by rw [← hC3]; exact Heap.lt_size e
    refine hsb.extBut b o (Nat.ne_of_lt lt) (Heap.get?_push_of_some _ ?_)
    rw [hheap] at e
    exact e
  have ne3 : ∀ b o, s3.heap.get? b = some o → b ≠ C := fun b o e => by rw [← hC3]; exact Nat.ne_of_lt (Heap.lt_size e)
  have sub := O.sub.at
  have I4 : Inv (blk X scope cl Nc s3 (upd H p (.lst [])) C fp (X.pn ++ pins)) [] (sig fv σ) (upd H p (.lst [])) { s with heap := h₁, toks := s.toks + ([] : List (Str × Value)).length } := by
    refine ⟨⟨I3.ok.mod, ?_, I3.ok.glob, I3.ok.blt, ?_, ?_, ?_, ?_, I3.ok.hd, I3.ok.frames, .inl rfl, ?_, I3.bs, ?_, ?_, ?_, I3.stack, I3.stkFree⟩, ?_, ?_, Un.kept old, ⟨_, hns, ?_⟩, ?_, ?_, ?_, ?_, I3.hok.kept old, ?_⟩
    · exact O.kind
    · show s3.heap.objs.size ≤ C; rw [hC3]; exact Nat.le_refl _
    · intro x y c h1 h2; exact I3.ok.inj x y c (sub x c h1) (sub y c h2)
    · intro x hx; exact O.cells hx
    · intro x c hf; exact Bool.noConfusion hf
    · intro b hb
      obtain ⟨f0, f1, f2, f3, f4, f5⟩ := f b hb
      obtain ⟨o, ho, _⟩ := T.obj _ _ st b hb
      have lt : b < C := by rw [← hC3, hC, ← hp0]; exact Nat.lt_succ_of_lt (Heap.lt_size ho)
      exact ⟨Nat.ne_of_lt lt, fun x c e => f4 x c (sub x c e)⟩
    · exact Nat.le_trans I3.ok.bsz I3.sz
    · intro b o e hb
      obtain ⟨f0, f1, f2, f3, f4, f5⟩ := f b hb
      rcases f3 with z | z
      · exact I3.ok.noex b o e z
      · exact absurd (Nat.lt_of_lt_of_le (Nat.lt_of_lt_of_le (Heap.lt_size e) I3.ok.bsz) z) (Nat.lt_irrefl _)
    · intro b hb z
      obtain ⟨f0, f1, f2, f3, f4, f5⟩ := f b hb
      rcases List.mem_cons.mp (I3.stkSub b z) with z | z
      · exact f1 z
      · exact f2 z
    · show s.os = s3.os; rw [← hs3]
    · exact I.bare
    · intro k x v e1 e2 e3
      obtain ⟨j, q1, q2⟩ := sig_at e2
      obtain ⟨a1, a2, a3, a4⟩ := O.fvs.at q1 e1
      obtain ⟨m, _, hl⟩ := I3.loc
      obtain ⟨u, r, lk⟩ := hl j x v a1 q2 (.inr (.inl a2))
      refine ⟨u, r, ?_⟩
      rcases lk with ⟨z, _⟩ | ⟨_, c, e, o, ho, hd⟩
      · have z' : X.env.scope.names.lookup x = some .local := z
        rw [a2] at z'; cases z'
      · exact .inr ⟨.inl a4, c, a3.trans e, o, old c o ho, hd⟩
    · intro x c e
      obtain ⟨v, o, ho, hd⟩ := I3.cell x c (sub x c e)
      exact ⟨v, o, old c o ho, hd⟩
    · show upd H p (.lst []) C = none
      exact I3.hok.fresh (by rw [hC3]; exact Nat.le_refl _)
    · intro x c e; exact I3.freeC x c (sub x c e)
    · intro q hq
      have hq' : q ∈ X.pn ++ pins := by
        have z : q ∈ (X.pn ++ pins) ++ [] := hq
        rwa [List.append_nil] at z
      obtain ⟨a1, a2, a3, a4, a5⟩ := I3.pin q hq'
      refine ⟨old _ _ a1, a2, ne3 _ _ a1, fun z => ?_, a5⟩
      rcases List.mem_cons.mp (I3.stkSub _ z) with z | z
      · exact a3 z
      · exact a4 z
    · show (sig fv σ).length = Nc.length
      unfold sig
      rw [List.length_map]
      exact O.len
  have fpc : ∀ {H' : Hp}, (∀ b ∈ fp, H' b = none) → ∀ b ∈ fp, FpOk (blk X scope cl Nc s3 (upd H p (.lst [])) C fp (X.pn ++ pins)) [] H' b := fun hn b hb => by
    obtain ⟨f0, f1, f2, f3, f4, f5⟩ := f b hb
    refine ⟨hn b hb, (I4.ok.exf b hb).1, I4.ok.exfs b hb, .inl hb, (I4.ok.exf b hb).2, fun q hq => ?_⟩
    have hq' : q ∈ X.pn ++ pins := by
      have z : q ∈ (X.pn ++ pins) ++ [] := hq
      rwa [List.append_nil] at z
    exact f5 q hq'
  have st4 : tn 0 h₁ := T.keep _ _ _ st fun b hb o e => old b o (by rw [hheap]; exact Heap.get?_push_of_some _ e)
  have fn4 : ∀ b ∈ fp, upd H p (.lst []) b = none := fun b hb => by
    obtain ⟨f0, _⟩ := f b hb
    obtain ⟨o, ho, _⟩ := T.obj _ _ st b hb
    rw [upd_ne (by rw [← hp0]; exact Nat.ne_of_lt (Heap.lt_size ho))]
    exact f0
  have loop : codeAny (model X.prog X.w) X.A (.compLoop (.ListComp elt [⟨tg, iter, ifs, 0⟩] scope pos) 0 (.ref it) (.ref p) (compEnvC scope cl C X.env)) (RR (.ref p) C) { s with heap := h₁, toks := s.toks + ([] : List (Str × Value)).length } := by
    refine comp_loop (fun n s' => ∃ i ys H', Inv (blk X scope cl Nc s3 (upd H p (.lst [])) C fp (X.pn ++ pins)) [] (sig fv σ) H' s' ∧ tn i s'.heap ∧ (∀ b ∈ fp, H' b = none) ∧ W i n ys H' ∧ 1 ≤ s'.toks) ?_ m0 ⟨0, [], _, I4, st4, fn4, w0, t1⟩
    rintro n s5 ⟨i, ys, H5, I5, st5, fn5, w5, t5⟩
    obtain ⟨hl5, hh⟩ := hT i n ys H5 w5
    rcases hh with ⟨stop, q⟩ | ⟨go, step⟩
    · refine thn (T.done (blk X scope cl Nc s3 (upd H p (.lst [])) C fp (X.pn ++ pins)) rfl rfl rfl hc i [] s5 _ H5 _ I5 (fpc fn5) st5 stop) fun r s6 ⟨hr, I6⟩ => ?_
      subst hr
      obtain ⟨m6, hn6, _⟩ := I6.loc
      have I7 : Inv X pins σ H5 s6 := by
        refine I3.call' (ch := fp) I6.os I6.base I6.hok I6.bare fun b hb => ?_
        obtain ⟨f0, f1, f2, f3, f4, f5⟩ := f b hb
        exact ⟨f3, f1, f4, f5⟩
      refine hRR p C s6 H5 I7 q I6.free ⟨m6, hn6⟩ ?_ ?_ (fun x c e z => ?_) fun q hq z => ?_
      · rw [← hC3]; exact Nat.ne_of_gt I3.lt
      · rw [← hC3]; exact I3.sz
      · obtain ⟨v, o, ho, _⟩ := I3.cell x c e
        exact ne3 c o ho z
      · exact ne3 _ _ (I3.pin q hq).1 z
    · refine thnT t5 (T.item (blk X scope cl Nc s3 (upd H p (.lst [])) C fp (X.pn ++ pins)) rfl rfl rfl hc i [] s5 _ H5 (fun _ _ => False) I5 (fpc fn5) st5 go) fun r s6 t6 ⟨u, hr, h6⟩ => ?_
      subst hr
      refine thnT t6 h6 fun _ s7 t7 ⟨x, H7, I7, r7, y7, st7, fn7⟩ => ?_
      have I7' := I7.pinned (fpc fn7) (T.obj _ _ st7)
      refine thnT t7 (hg s3 (upd H p (.lst [])) C fp (X.pn ++ pins) _ s7 _ H7 x u _ I7' r7 (step x H7 y7)) fun _ s8 t8 ⟨σ8, H8, I8, wk8, q8⟩ => ?_
      have again : ∀ {H9 : Hp} {s9 : Shared} {ys' : List V}, 1 ≤ s9.toks → Inv (blk X scope cl Nc s3 (upd H p (.lst [])) C fp (X.pn ++ pins)) ([] ++ pinsAt fp s7.heap) σ8 H9 s9 → (∃ m', m' < n ∧ W (i + 1) m' ys' H9) →
          ∃ m, m < n ∧ ∃ i ys H', Inv (blk X scope cl Nc s3 (upd H p (.lst [])) C fp (X.pn ++ pins)) [] (sig fv σ) H' s9 ∧ tn i s9.heap ∧ (∀ b ∈ fp, H' b = none) ∧ W i m ys H' ∧ 1 ≤ s9.toks := fun {H9 s9 ys'} t9 I9 ⟨m', hm, w9⟩ => by
        refine ⟨m', hm, i + 1, ys', H9, I9.unpinned.weak wk8.1.symm wk8.2, T.keep _ _ _ st7 fun b hb o e => (I9.pin (b, o) (List.mem_append_right _ (List.mem_append_right _ (mem_pinsAt hb e)))).1, fun b hb => ?_, w9, t9⟩
        obtain ⟨o, e, d⟩ := T.obj _ _ st7 b hb
        exact (I9.pin (b, o) (List.mem_append_right _ (List.mem_append_right _ (mem_pinsAt hb e)))).2.1
      refine thnT t8 (ht s3 (upd H p (.lst [])) C fp (X.pn ++ pins) _ s8 σ8 H8 _ I8 q8) fun b s9 t9 ⟨H9, I9, q9⟩ => ?_
      cases b with
      | false => exact again t9 I9 q9
      | true =>
        refine thnT t9 (he s3 (upd H p (.lst [])) C fp (X.pn ++ pins) _ s9 σ8 H9 _ t9 I9 q9) fun v s10 t10 ⟨y, H10, I10, r10, hy, hz, q10⟩ => ?_
        refine thnT t10 (mt_append (X := blk X scope cl Nc s3 (upd H p (.lst [])) C fp (X.pn ++ pins)) _ s10 σ8 H10 (.ref p) [y] (.ref p) [v] (fun _ H' => ∃ m', m' < n ∧ W (i + 1) m' (ys ++ [y]) H') I10 rfl (.cons r10 .nil) ⟨p, ys, y, rfl, rfl, hy, hz, q10⟩) fun _ s11 t11 ⟨_, H11, I11, _, q11⟩ => ?_
        exact again t11 I11 q11
  exact codeAny_compStart_list loop (T.self _ _ _ _ _ st4 loop)

theorem pet_comp {wi : TI} (O : CompOk X scope cl Nc fv) (hc : X.calm = true) (hi : PI X tg iter wi) (hg : ∀ s₀ H₀ C ex pn, PG (blk X scope cl Nc s₀ H₀ C ex pn) tg g) (ht : ∀ s₀ H₀ C ex pn, PIf (blk X scope cl Nc s₀ H₀ C ex pn) ifs tt)
    (he : ∀ s₀ H₀ C ex pn, PEt (blk X scope cl Nc s₀ H₀ C ex pn) elt te) (hs : ∀ x, foldedSetIterable iter X.env x = pure x := by intro _; rfl) :
    PEt X (.ListComp elt [⟨tg, iter, ifs, 0⟩] scope pos) (tComp fv wi g tt te) := by
  intro pins s σ H Q t0 I h
  rw [eval_ListComp]
  refine wpAny_comprehension_free (use := none) rfl hs O.clos O.kind O.names (thnT t0 (hi pins s σ H _ I h) fun v s1 t1 h1 => thnT t1 h1 fun itv s2 t2 h2 => ?_)
  obtain ⟨it, fp, tn, J, H2, e, I2, T, st2, f2, q2⟩ := h2
  subst e
  refine comp_runT (RR := fun acc C => compPost (model X.prog X.w) X.A X.xe none (EP X pins σ Q) acc C) O hc hg ht he t2 I2 T st2 f2 q2 ?_
  intro p C s' H' I' q' c1 c2 c3 c4 c5 c6
  obtain ⟨m, hn⟩ := c2
  exact ⟨m, hn, fun h'' hs'' => ⟨.ref p, H', I'.turned (t' := s'.toks) (fun b o hb e => (hs''.2 b hb).trans e) c1 c3 (.inr c4) c5 c6, rfl, q'⟩⟩
end
end L2

set_option Elab.async false
set_option linter.all false
set_option maxRecDepth 100000
set_option maxHeartbeats 4000000
namespace K8
open PySem L2
theorem rep_len {x y z : Str} : (Txt.replace x y z).length ≤ x.length + (x.length + 1) * z.length := by
  unfold Txt.replace
  split
  · exact Nat.le_add_right _ _
  · have h1 := StrLaws.occ_length_le x y 0 x.length (x.length + 1)
    have hy : (Builtin.Str.glued y (Builtin.Str.partsBetween x (Builtin.Str.occurrences x y 0 x.length (x.length + 1)) y.length)).length = x.length := by rw [StrLaws.glued_between_self]
    rw [size_glued, length_partsBetween, Nat.add_sub_cancel] at hy
    rw [size_glued, length_partsBetween, Nat.add_sub_cancel]
    have h2 : (Builtin.Str.occurrences x y 0 x.length (x.length + 1)).length * z.length ≤ (x.length + 1) * z.length := Nat.mul_le_mul_right _ h1
    omega
theorem mul9 {n : Int} (h0 : 59 ≤ n) (h1 : n ≤ 62) : MulOk "9" n ∧ (Txt.mul "9" n).length ≤ 62 := by
  have : n = 59 ∨ n = 60 ∨ n = 61 ∨ n = 62 := by omega
  unfold MulOk
  rcases this with rfl | rfl | rfl | rfl <;> decide +kernel
theorem mul0 : MulOk "0" 59 ∧ (Txt.mul "0" 59).length = 59 := by
  unfold MulOk
  decide +kernel
theorem four_str (a b c d : Str) {i : Int} (h0 : 0 ≤ i) (h1 : i < 4) : ∃ x, (x = a ∨ x = b ∨ x = c ∨ x = d) ∧ atI [V.str a, V.str b, V.str c, V.str d] i = some (.str x) := by
  have : i = 0 ∨ i = 1 ∨ i = 2 ∨ i = 3 := by omega
  rcases this with rfl | rfl | rfl | rfl
  · exact ⟨a, .inl rfl, rfl⟩
  · exact ⟨b, .inr (.inl rfl), rfl⟩
  · exact ⟨c, .inr (.inr (.inl rfl)), rfl⟩
  · exact ⟨d, .inr (.inr (.inr rfl)), rfl⟩
/-- an item of a list of texts -/
theorem at_strs {ss : List Str} {i : Int} (h0 : 0 ≤ i) (h1 : i < ss.length) : ∃ x ∈ ss, atI (ss.map V.str) i = some (.str x) := by
  have hi : i.toNat < ss.length := by omega
  refine ⟨ss[i.toNat], List.getElem_mem hi, ?_⟩
  have e : i = ((i.toNat : Nat) : Int) := by omega
  have h := atI_nat (xs := ss.map V.str) (j := i.toNat) (v := .str ss[i.toNat]) (by simp [hi])
  rw [← e] at h
  exact h
/-- a sign of a text -/
theorem at_sg {z : Str} {i : Int} (h0 : 0 ≤ i) (h1 : i < z.length) : ∃ c, atI (Tx.sgs z) i = some c := by
  have hl := Tx.sgs_len z
  have hi : i.toNat < (Tx.sgs z).length := by omega
  refine ⟨(Tx.sgs z)[i.toNat], ?_⟩
  have e : i = ((i.toNat : Nat) : Int) := by omega
  have h := atI_nat (xs := Tx.sgs z) (j := i.toNat) (v := (Tx.sgs z)[i.toNat]) (by simp [hi])
  rw [← e] at h
  exact h
section
variable {P : Program} {w : World} {K : PySem.W.Frag} {mg : Str → Option Value} {base : Heap}
seal L2.PSs L2.PS L2.PE L2.PA L2.PT L2.PW
/-! _law_sign -/
def spSign : Sp := fun vs H Q _ => ∃ c : Int, vs = [.int c] ∧ ∀ x : Str, x.length ≤ 1 → Q (.str x) H
theorem scSi : FnScope ["_law_cell", "_law_some"] ["_law_cell"] (defScope sSign) := ⟨rfl, rfl, rfl, by decide +kernel, rfl, by decide +kernel, by decide +kernel⟩
theorem ok_sign {f : Addr} {fd : FuncData} (F : FunG K "_law_sign" "_law_sign" sSign f fd .none) (T : Pl mg) : FnOk P w K mg base CX0 1 f fd ["_law_cell"] spSign := by
  refine F.ok scSi (fun vs H Q E h => ?_) (fun cdv A outer s H vs Q E hr h => ?_)
  · obtain ⟨g, rfl, _⟩ := h; rfl
  · obtain ⟨c, rfl, k⟩ := h
    refine ⟨_, pss_cons (ps_set (i := 1) scSi.nd rfl (Or.inl rfl) pe_str)
      (pss_cons (ps_set (i := 1) scSi.nd rfl (Or.inl rfl) (pe_op op_add_str (pv 1) pe_str))
      (pss_one (ps_ret (pe_ix ix_str (pv 1) (pe_op op_mod (pv 0) (pe_callB call_len_str rfl T.len PySem.boot_len (pa_cons (pv 1) pa_nil))) (fun _ _ => rfl))))), ?_⟩
    refine ⟨_, rfl, _, _, rfl, rfl, by decide +kernel, ?_⟩
    refine ⟨_, rfl, _, rfl, _, rfl, _, rfl, by decide +kernel, _, _, rfl, rfl, by show (0 : Int) < _; decide +kernel, ?_⟩
    refine (fun (h : ∃ ch, atI (Tx.sgs _) _ = some ch) => ⟨_, _, h.choose, rfl, rfl, by decide +kernel, h.choose_spec, k _ (Nat.le_refl 1)⟩) (at_sg (Int.emod_nonneg _ ?_) (Int.emod_lt_of_pos _ ?_))
    · decide +kernel
    · decide +kernel
/-! _law_odd_part -/
def spOddP : Sp := fun vs H Q _ => ∃ c : Int, vs = [.int c] ∧ ∀ (x : Str) H', Same H H' → x.length ≤ 94 → Q (.str x) H'
theorem scOp : FnScope ["_law_cell", "_law_some"] ["_law_cell"] (defScope sOddP) := ⟨rfl, rfl, rfl, by decide +kernel, rfl, by decide +kernel, by decide +kernel⟩
theorem ok_oddP {f : Addr} {fd : FuncData} (F : FunG K "_law_odd_part" "_law_odd_part" sOddP f fd .none) (T : Pl mg) : FnOk P w K mg base CX0 1 f fd ["_law_cell"] spOddP := by
  refine F.ok scOp (fun vs H Q E h => ?_) (fun cdv A outer s H vs Q E hr h => ?_)
  · obtain ⟨g, rfl, _⟩ := h; rfl
  · obtain ⟨c, rfl, k⟩ := h
    refine ⟨_, pss_cons (ps_set (i := 1) scOp.nd rfl (Or.inl rfl) (pe_lst (pa_cons pe_str (pa_cons pe_str (pa_cons pe_str (pa_cons pe_str (pa_cons pe_str (pa_cons pe_str (pa_cons pe_str (pa_cons pe_str (pa_cons pe_str (pa_cons pe_str (pa_cons pe_str (pa_cons pe_str pa_nil))))))))))))))
      (pss_cons (ps_set (i := 1) scOp.nd rfl (Or.inl rfl) (pe_op op_cat (pe_op op_cat (pv 1) (pe_comp (Nc := ["_law_k"]) (fv := [none]) ⟨rfl, by decide +kernel, rfl, by decide +kernel, trivial, by decide +kernel, rfl, trivial⟩ rfl (pi_range1 rfl T.range (pa_cons pe_int pa_nil))
            (fun _ _ _ _ _ => pg_name (i := 0) (show (["_law_k"] : List Str).Nodup by decide +kernel) rfl (Or.inl rfl)) (fun _ _ _ _ _ => pif_nil)
            (fun _ _ _ _ _ => pe_op op_add_str pe_str (pe_op op_mulS pe_str (pe_op op_add pe_int (pv 0))))))
          (pe_lst (pa_cons (pe_op op_add_str pe_str (pe_op op_mulS pe_str pe_int)) (pa_cons pe_str pa_nil)))))
      (pss_one (ps_ret (pe_ix ix_list (pv 1) (pe_op op_mod (pv 0) (pe_callB call_len_seq rfl T.len PySem.boot_len (pa_cons (pv 1) pa_nil))) (fun _ _ => rfl))))), ?_⟩
    refine ⟨by show 12 ≤ sizeLine; decide, fun p1 hp1 => ?_⟩
    have s1 := same_new (o := .lst [V.str "", .str "dry", .str "wet ", .str " dry 1", .str "dry  1", .str "dry 1 ", .str "Dry 1", .str "wet -1", .str "wet +1", .str "dry 01", .str "wet 00", .str "mud 3"]) hp1
    have h1 : upd H p1 (.lst [V.str "", .str "dry", .str "wet ", .str " dry 1", .str "dry  1", .str "dry 1 ", .str "Dry 1", .str "wet -1", .str "wet +1", .str "dry 01", .str "wet 00", .str "mud 3"]) p1 = some (.lst ((["", "dry", "wet ", " dry 1", "dry  1", "dry 1 ", "Dry 1", "wet -1", "wet +1", "dry 01", "wet 00", "mud 3"] : List Str).map V.str)) := upd_same
    have b1 : ∀ y ∈ (["", "dry", "wet ", " dry 1", "dry  1", "dry 1 ", "Dry 1", "wet -1", "wet +1", "dry 01", "wet 00", "mud 3"] : List Str), y.length ≤ 94 := by decide +kernel
    have l1 : (["", "dry", "wet ", " dry 1", "dry  1", "dry 1 ", "Dry 1", "wet -1", "wet +1", "dry 01", "wet 00", "mud 3"] : List Str).length = 12 := rfl
    generalize upd H p1 (.lst [V.str "", .str "dry", .str "wet ", .str " dry 1", .str "dry  1", .str "dry 1 ", .str "Dry 1", .str "wet -1", .str "wet +1", .str "dry 01", .str "wet 00", .str "mud 3"]) = H1 at s1 h1 ⊢
    generalize (["", "dry", "wet ", " dry 1", "dry  1", "dry 1 ", "Dry 1", "wet -1", "wet +1", "dry 01", "wet 00", "mud 3"] : List Str) = ss at h1 b1 l1
    refine ⟨_, rfl, _, rfl, by decide, by decide, fun p2 hp2 => ?_⟩
    refine comp_range (lo := 0) (n := (4 : Int).toNat) (fun i ys H2 => Same H1 H2 ∧ ∃ us : List Str, ys = us.map V.str ∧ H2 p2 = some (.lst ys) ∧ us.length = i ∧ ∀ y ∈ us, y.length ≤ 94) ⟨same_new hp2, [], rfl, upd_same, rfl, by simp⟩ (fun i ys H2 ⟨_, us, _, h, _⟩ => h) ?_ ?_
    · rintro i ys H2 hi ⟨sm, us, rfl, hy, hl, hb⟩
      have hi : i < 4 := hi
      obtain ⟨m1, m2⟩ := mul9 (n := 59 + (0 + (i : Int))) (by omega) (by omega)
      have e4 : ("dry " : Str).length = 4 := by decide +kernel
      refine ⟨(Wk.refl _).set rfl, yes ?_⟩
      refine ⟨_, rfl, _, _, rfl, rfl, _, _, rfl, rfl, m1, _, _, rfl, rfl, Nat.le_trans (m := 66) (by rw [e4]; exact Nat.add_le_add_left m2 4) (by decide), hy, ?_, nx hi ⟨sm.write hp2, us ++ [("dry " : Str) ++ Txt.mul "9" (59 + (0 + (i : Int)))], by simp, upd_same, by simp [hl], fun y hy => ?_⟩⟩
      · exact Nat.lt_of_le_of_lt (m := 10) (by rw [List.length_map]; omega) (by decide)
      · rcases List.mem_append.mp hy with z | z
        · exact hb y z
        · rw [List.mem_singleton.mp z, Str.length_append, e4]; omega
    rintro ys H2 ⟨sm, us, rfl, hy, hl, hb⟩
    have hl : us.length = 4 := hl
    have h1' := sm _ _ h1
    refine ⟨p1, p2, _, _, rfl, rfl, h1', hy, Nat.le_trans (m := 100) (by simp; omega) (by decide), fun p3 hp3 => ?_⟩
    have s3 := (s1.trans sm).trans (same_new (o := .lst (ss.map V.str ++ us.map V.str)) hp3)
    have h3 : upd H2 p3 (.lst (ss.map V.str ++ us.map V.str)) p3 = some (.lst ((ss ++ us).map V.str)) := by rw [upd_same, List.map_append]
    generalize upd H2 p3 (.lst (ss.map V.str ++ us.map V.str)) = H3 at s3 h3 ⊢
    have e5 : ("wet 1" : Str).length = 5 := by decide +kernel
    refine ⟨_, _, rfl, rfl, mul0.1, _, _, rfl, rfl, by rw [e5, mul0.2]; decide, by show 2 ≤ sizeLine; decide, fun p4 hp4 => ?_⟩
    have t4 := same_new (o := .lst [V.str (("wet 1" : Str) ++ Txt.mul "0" 59), .str "dry 3, wet 4,"]) hp4
    have h4 : upd H3 p4 (.lst [V.str (("wet 1" : Str) ++ Txt.mul "0" 59), .str "dry 3, wet 4,"]) p4 = some (.lst (([("wet 1" : Str) ++ Txt.mul "0" 59, "dry 3, wet 4,"] : List Str).map V.str)) := upd_same
    have b4 : ∀ y ∈ ([("wet 1" : Str) ++ Txt.mul "0" 59, "dry 3, wet 4,"] : List Str), y.length ≤ 94 := by decide +kernel
    have l4 : ([("wet 1" : Str) ++ Txt.mul "0" 59, "dry 3, wet 4,"] : List Str).length = 2 := rfl
    generalize upd H3 p4 (.lst [V.str (("wet 1" : Str) ++ Txt.mul "0" 59), .str "dry 3, wet 4,"]) = H4 at t4 h4 ⊢
    generalize ([("wet 1" : Str) ++ Txt.mul "0" 59, "dry 3, wet 4,"] : List Str) = ws at h4 b4 l4
    refine ⟨p3, p4, _, _, rfl, rfl, t4 _ _ h3, h4, Nat.le_trans (m := 100) (by simp; omega) (by decide), fun p5 hp5 => ?_⟩
    have s5 := (s3.trans t4).trans (same_new (o := .lst ((ss ++ us).map V.str ++ ws.map V.str)) hp5)
    have h5 : upd H4 p5 (.lst ((ss ++ us).map V.str ++ ws.map V.str)) p5 = some (.lst (((ss ++ us) ++ ws).map V.str)) := by rw [upd_same, List.map_append (l₁ := ss ++ us)]
    generalize upd H4 p5 (.lst ((ss ++ us).map V.str ++ ws.map V.str)) = H5 at s5 h5 ⊢
    have l5 : ((ss ++ us) ++ ws).length = 18 := by simp; omega
    have b5 : ∀ y ∈ (ss ++ us) ++ ws, y.length ≤ 94 := fun y hy => by
      rcases List.mem_append.mp hy with z | z
      · rcases List.mem_append.mp z with z | z
        · exact b1 y z
        · exact hb y z
      · exact b4 y z
    refine ⟨_, rfl, _, rfl, _, rfl, p5, _, rfl, .inl (SqL.of h5), _, _, rfl, rfl, by show (0 : Int) < _; rw [List.length_map, l5]; decide, ?_⟩
    obtain ⟨x, hx, ha⟩ := at_strs (ss := (ss ++ us) ++ ws) (i := c % (((((ss ++ us) ++ ws).map V.str).length : Nat) : Int)) (Int.emod_nonneg _ (by rw [List.length_map, l5]; decide)) (by rw [List.length_map, l5]; exact Int.emod_lt_of_pos _ (by decide))
    exact ⟨p5, _, _, _, rfl, rfl, SqL.of h5, ha, k x H5 s5 (b5 x hx)⟩
end
end K8

set_option Elab.async false
set_option linter.all false
set_option maxRecDepth 100000
set_option maxHeartbeats 4000000
namespace K8
open PySem L2
theorem cut_strs (ps : List Str) (lo hi : Option Int) : ∃ us : List Str, cutV (ps.map V.str) lo hi = us.map V.str ∧ us.length ≤ ps.length ∧ ∀ y ∈ us, y ∈ ps := by
  unfold cutV
  refine ⟨(ps.drop (HT.sIx (ps.map V.str).length 0 lo)).take (HT.sIx (ps.map V.str).length (ps.map V.str).length hi - HT.sIx (ps.map V.str).length 0 lo), ?_, ?_, fun y hy => ?_⟩
  · rw [List.map_take, List.map_drop]
  · rw [List.length_take, List.length_drop]; omega
  · exact List.mem_of_mem_drop (List.mem_of_mem_take hy)
/-- texts on the heap, few and short -/
def Tl (H : Hp) (p : Addr) (us : List Str) : Prop := H p = some (.lst (us.map V.str)) ∧ us.length ≤ 100 ∧ ∀ y ∈ us, y.length ≤ 400
theorem Tl.join {H : Hp} {p : Addr} {us : List Str} (h : Tl H p us) : JoinOk ", " us = true ∧ (Str.join ", " us).length ≤ 50000 :=
  ⟨Q8.join_ok (B := 400) (n := 100) h.2.2 h.2.1 (by decide +kernel) (by decide), Nat.le_trans (Q8.join_len (B := 400) (n := 100) h.2.2 h.2.1 (by decide +kernel)) (by decide)⟩
section
variable {P : Program} {w : World} {K : PySem.W.Frag} {mg : Str → Option Value} {base : Heap}
seal L2.PSs L2.PS L2.PE L2.PA L2.PT L2.PW
def spSpoilt (K : PySem.W.Frag) : Sp := fun vs H Q _ => ∃ (x : Str) (pp sc : Addr) (ps : List Str) (ns : List Int), vs = [.str x, .ref pp, .ref sc] ∧ x.length ≤ 10000 ∧ H pp = some (.lst (ps.map V.str)) ∧ ps.length ≤ 30 ∧ (∀ y ∈ ps, y.length ≤ 94) ∧ SqL K H sc (ns.map V.int) ∧
  ∀ (y : Str) H', Same H H' → y.length ≤ 50000 → Q (.str y) H'
theorem scSp : FnScope ["_law_text_here", "_law_parts", "_law_script", "_law_way", "_law_at", "_law_place", "_law_which"] ["_law_text_here", "_law_parts", "_law_script"] (defScope sSpoilt) := ⟨rfl, rfl, rfl, by decide +kernel, rfl, by decide +kernel, by decide +kernel⟩
theorem ok_spoilt {f f1 f2 f3 : Addr} {fd fd1 fd2 fd3 : FuncData} (F : FunG K "_law_spoilt" "_law_spoilt" sSpoilt f fd .none) (T : Pl mg) (D1 : Df K mg "_law_cell_at" sCell ["_law_script", "_law_k"] f1 fd1)
    (D2 : Df K mg "_law_sign" sSign ["_law_cell"] f2 fd2) (D3 : Df K mg "_law_odd_part" sOddP ["_law_cell"] f3 fd3) : FnOk P w K mg base CX0 2 f fd ["_law_text_here", "_law_parts", "_law_script"] (spSpoilt K) := by
  have G1 : FnOk P w K mg base CX0 1 f1 fd1 ["_law_script", "_law_k"] (spCell K) := ok_cell D1.fn T
  have G2 : FnOk P w K mg base CX0 1 f2 fd2 ["_law_cell"] spSign := ok_sign D2.fn T
  have G3 : FnOk P w K mg base CX0 1 f3 fd3 ["_law_cell"] spOddP := ok_oddP D3.fn T
  refine F.ok scSp (fun vs H Q E h => ?_) (fun cdv A outer s H vs Q E hr h => ?_)
  · obtain ⟨_, _, _, _, _, rfl, _⟩ := h; rfl
  · obtain ⟨x, pp, sc, ps, ns, rfl, hx, hp, hl, hb, hS, k⟩ := h
    refine ⟨_, pss_cons (ps_set (i := 3) scSp.nd rfl (Or.inl rfl) (pe_op op_mod (pe_call G1 hr rfl D1.gl D1.fn.kp D1.bd .nil pass0 (pa_cons (pv 2) (pa_cons pe_int pa_nil))) pe_int))
      (pss_cons (ps_set (i := 4) scSp.nd rfl (Or.inl rfl) (pe_op op_mod (pe_call G1 hr rfl D1.gl D1.fn.kp D1.bd .nil pass0 (pa_cons (pv 2) (pa_cons pe_int pa_nil))) (pe_op op_add (pe_callB call_len_str rfl T.len PySem.boot_len (pa_cons (pv 0) pa_nil)) pe_int)))
      (pss_cons (ps_set (i := 5) scSp.nd rfl (Or.inl rfl) (pe_op op_mod (pe_call G1 hr rfl D1.gl D1.fn.kp D1.bd .nil pass0 (pa_cons (pv 2) (pa_cons pe_int pa_nil))) (pe_op op_add (pe_callB call_len_seq rfl T.len PySem.boot_len (pa_cons (pv 1) pa_nil)) pe_int)))
      (pss_cons (ps_set (i := 6) scSp.nd rfl (Or.inl rfl) (pe_call G1 hr rfl D1.gl D1.fn.kp D1.bd .nil pass0 (pa_cons (pv 2) (pa_cons pe_int pa_nil))))
      (pss_cons (ps_if (pt_cmpR op_eq (pv 3) pe_int (nomark _)) (pss_one (ps_ret (pe_op op_add_str (pe_op op_add_str (pe_slice sl_str (pv 0) po_none (po_some (pv 4))) (pe_call G2 hr rfl D2.gl D2.fn.kp D2.bd .nil pass0 (pa_cons (pv 6) pa_nil))) (pe_slice sl_str (pv 0) (po_some (pv 4)) po_none)))) pss_nil)
      (pss_cons (ps_if (pt_cmpR op_eq (pv 3) pe_int (nomark _)) (pss_one (ps_ret (pe_op op_add_str (pe_slice sl_str (pv 0) po_none (po_some (pv 4))) (pe_slice sl_str (pv 0) (po_some (pe_op op_add (pv 4) pe_int)) po_none)))) pss_nil)
      (pss_cons (ps_if (pt_cmpR op_eq (pv 3) pe_int (nomark _)) (pss_one (ps_ret (pe_op op_add_str (pe_op op_add_str (pe_slice sl_str (pv 0) po_none (po_some (pv 4))) (pe_call G2 hr rfl D2.gl D2.fn.kp D2.bd .nil pass0 (pa_cons (pv 6) pa_nil))) (pe_slice sl_str (pv 0) (po_some (pe_op op_add (pv 4) pe_int)) po_none)))) pss_nil)
      (pss_cons (ps_if (pt_cmpR op_eq (pv 3) pe_int (nomark _)) (pss_one (ps_ret (pe_bm PySem.F.plainAttrs_str PySem.F.slot_str_join PySem.F.type_str_join mt_join pe_str (pa_cons (pe_op op_cat (pe_op op_cat (pe_slice sl_list (pv 1) po_none (po_some (pv 5))) (pe_lst (pa_cons (pe_call G3 hr rfl D3.gl D3.fn.kp D3.bd .nil pass0 (pa_cons (pv 6) pa_nil)) pa_nil))) (pe_slice sl_list (pv 1) (po_some (pe_op op_add (pv 5) pe_int)) po_none)) pa_nil)))) pss_nil)
      (pss_cons (ps_if (pt_cmpR op_eq (pv 3) pe_int (nomark _)) (pss_one (ps_ret (pe_op op_add_str (pv 0) (pe_ix ix_list (pe_lst (pa_cons pe_str (pa_cons pe_str (pa_cons pe_str (pa_cons pe_str pa_nil))))) (pe_op op_mod (pv 6) pe_int) (fun _ _ => rfl))))) pss_nil)
      (pss_cons (ps_if (pt_cmpR op_eq (pv 3) pe_int (nomark _)) (pss_one (ps_ret (pe_bm PySem.F.plainAttrs_str PySem.F.slot_str_join PySem.F.type_str_join mt_join pe_str (pa_cons (pe_op op_cat (pe_op op_cat (pe_slice sl_list (pv 1) po_none (po_some (pv 5))) (pe_lst (pa_cons (pe_op op_add_str pe_str (pe_op op_mulS pe_str (pe_op op_add pe_int (pe_op op_mod (pv 6) pe_int)))) pa_nil))) (pe_slice sl_list (pv 1) (po_some (pe_op op_add (pv 5) pe_int)) po_none)) pa_nil)))) pss_nil)
      (pss_cons (ps_if (pt_cmpR op_eq (pv 3) pe_int (nomark _)) (pss_one (ps_ret (pe_bmT PySem.F.plainAttrs_str PySem.F.slot_str_join PySem.F.type_str_join mt_join (pet_op op_cat (pet_comp (Nc := ["_law_part"]) (fv := [none]) ⟨rfl, by decide +kernel, rfl, by decide +kernel, trivial, by decide +kernel, rfl, trivial⟩ rfl (pi_list (pe_slice sl_list (pv 1) po_none (po_some pe_int)))
          (fun _ _ _ _ _ => pg_name (i := 0) (show (["_law_part"] : List Str).Nodup by decide +kernel) rfl (Or.inl rfl)) (fun _ _ _ _ _ => pif_nil) (fun _ _ _ _ _ => pet_rep (pv 0))) (PE.t (pe_slice sl_list (pv 1) (po_some pe_int) po_none)))))) pss_nil)
      (pss_cons (ps_if (pt_cmpR op_eq (pv 3) pe_int (nomark _)) (pss_one (ps_ret (pe_bmT PySem.F.plainAttrs_str PySem.F.slot_str_join PySem.F.type_str_join mt_join (pet_op op_cat (PE.t (pe_slice sl_list (pv 1) po_none (po_some (pv 5)))) (pet_comp (Nc := ["_law_part"]) (fv := [none]) ⟨rfl, by decide +kernel, rfl, by decide +kernel, trivial, by decide +kernel, rfl, trivial⟩ rfl (pi_list (pe_slice sl_list (pv 1) (po_some (pv 5)) po_none))
          (fun _ _ _ _ _ => pg_name (i := 0) (show (["_law_part"] : List Str).Nodup by decide +kernel) rfl (Or.inl rfl)) (fun _ _ _ _ _ => pif_nil) (fun _ _ _ _ _ => pet_rep (pv 0))))))) pss_nil)
      (pss_one (ps_ret (pv 0)))))))))))))), ?_⟩
    have hsz : x.length ≤ sizeLine := Nat.le_trans hx (by decide)
    have hS1 := hS
    refine ⟨_, rfl, sc, ns, 0, rfl, hS, by decide, _, _, rfl, rfl, (by decide : (0 : Int) < 12), ?_⟩
    refine ⟨_, rfl, sc, ns, 2, rfl, hS, by decide, _, rfl, x, rfl, hsz, _, _, rfl, rfl, _, _, rfl, rfl, (show (0 : Int) < ((x.length : Nat) : Int) + 1 by omega), ?_⟩
    refine ⟨_, rfl, sc, ns, 2, rfl, hS, by decide, _, rfl, pp, _, rfl, .inl (SqL.of hp), _, _, rfl, rfl, _, _, rfl, rfl, (show (0 : Int) < (((ps.map V.str).length : Nat) : Int) + 1 by omega), ?_⟩
    refine ⟨_, rfl, sc, ns, 3, rfl, hS, by decide, ?_⟩
    dsimp only
    generalize cellN ns 2 % (((x.length : Nat) : Int) + 1) = at_
    generalize cellN ns 2 % ((((ps.map V.str).length : Nat) : Int) + 1) = pl
    generalize cellN ns 3 = wh
    generalize cellN ns 0 % 12 = way
    have sl : ∀ a b : Option Int, (Txt.slice x a b).length ≤ 10000 := fun a b => Nat.le_trans (Txt.slice_le x a b) hx
    have sz2 : ∀ n : Nat, n ≤ 50000 → n ≤ sizeLine := fun n h => Nat.le_trans h (by decide)
    -- what is made by a join
    have fin : ∀ (p : Addr) us H', Same H H' → Tl H' p us → (∃ z p' ss, V.str ", " = .str z ∧ [V.ref p] = [.ref p'] ∧ SqL K H' p' (ss.map V.str) ∧ JoinOk z ss = true ∧ Q (.str (Str.join z ss)) H') := fun p us H' s' h =>
      ⟨_, p, us, rfl, rfl, SqL.of h.1, h.join.1, k _ H' s' h.join.2⟩
    have ps94 : ∀ us : List Str, (∀ y ∈ us, y ∈ ps) → ∀ y ∈ us, y.length ≤ 400 := fun us h y hy => Nat.le_trans (hb y (h y hy)) (by decide)
    refine ⟨_, rfl, rfl, _, rfl, ite2 (fun _ => ?_) (fun _ => ?_)⟩
    · refine ⟨_, rfl, _, rfl, _, rfl, x, rfl, hsz, _, rfl, wh, rfl, fun y hy => ?_⟩
      have h1 := sl none (some at_)
      have h2 := sl (some at_) none
      refine ⟨_, _, rfl, rfl, sz2 _ (by omega), _, rfl, _, rfl, _, rfl, x, rfl, hsz, _, _, rfl, rfl, sz2 _ (by rw [Str.length_append]; omega), k _ H (.refl H) (by rw [Str.length_append, Str.length_append]; omega)⟩
    refine ⟨_, rfl, rfl, _, rfl, ite2 (fun _ => ?_) (fun _ => ?_)⟩
    · refine ⟨_, rfl, _, rfl, _, rfl, x, rfl, hsz, _, rfl, _, rfl, _, _, rfl, rfl, _, rfl, x, rfl, hsz, ?_⟩
      have h1 := sl none (some at_)
      have h2 := sl (some (at_ + 1)) none
      exact ⟨_, _, rfl, rfl, sz2 _ (by omega), k _ H (.refl H) (by rw [Str.length_append]; omega)⟩
    refine ⟨_, rfl, rfl, _, rfl, ite2 (fun _ => ?_) (fun _ => ?_)⟩
    · refine ⟨_, rfl, _, rfl, _, rfl, x, rfl, hsz, _, rfl, wh, rfl, fun y hy => ?_⟩
      have h1 := sl none (some at_)
      have h2 := sl (some (at_ + 1)) none
      exact ⟨_, _, rfl, rfl, sz2 _ (by omega), _, rfl, _, rfl, _, _, rfl, rfl, _, rfl, x, rfl, hsz, _, _, rfl, rfl, sz2 _ (by rw [Str.length_append]; omega), k _ H (.refl H) (by rw [Str.length_append, Str.length_append]; omega)⟩
    refine ⟨_, rfl, rfl, _, rfl, ite2 (fun _ => ?_) (fun _ => ?_)⟩
    · refine ⟨rfl, _, rfl, _, rfl, _, rfl, pp, _, rfl, SqL.of hp, fun p1 hp1 => ?_⟩
      have s1 := same_new (o := .lst (cutV (ps.map V.str) none (some pl))) hp1
      have g1 : upd H p1 (.lst (cutV (ps.map V.str) none (some pl))) p1 = some (.lst (cutV (ps.map V.str) none (some pl))) := upd_same
      generalize upd H p1 (.lst (cutV (ps.map V.str) none (some pl))) = H1 at s1 g1 ⊢
      refine ⟨_, rfl, wh, rfl, fun o H2 s2 ho => ⟨by show 1 ≤ sizeLine; decide, fun p2 hp2 => ?_⟩⟩
      have t2 := same_new (o := .lst [V.str o]) hp2
      have g2 : upd H2 p2 (.lst [V.str o]) p2 = some (.lst [V.str o]) := upd_same
      generalize upd H2 p2 (.lst [V.str o]) = H3 at t2 g2 ⊢
      obtain ⟨u1, e1, l1, m1⟩ := cut_strs ps none (some pl)
      rw [e1] at g1
      refine ⟨p1, p2, _, _, rfl, rfl, (s2.trans t2) _ _ g1, g2, Nat.le_trans (m := 1000) (by simp; omega) (by decide), fun p3 hp3 => ?_⟩
      have t3 := same_new (o := .lst (u1.map V.str ++ [V.str o])) hp3
      have g3 : upd H3 p3 (.lst (u1.map V.str ++ [V.str o])) p3 = some (.lst ((u1 ++ [o]).map V.str)) := by rw [upd_same, List.map_append]; rfl
      generalize upd H3 p3 (.lst (u1.map V.str ++ [V.str o])) = H4 at t3 g3 ⊢
      have s4 := ((s1.trans s2).trans t2).trans t3
      refine ⟨_, rfl, _, rfl, _, _, rfl, rfl, _, rfl, pp, _, rfl, SqL.of (s4 _ _ hp), fun p4 hp4 => ?_⟩
      obtain ⟨u2, e2, l2, m2⟩ := cut_strs ps (some (pl + 1)) none
      rw [e2]
      have t5 := same_new (o := .lst (u2.map V.str)) hp4
      have g5 : upd H4 p4 (.lst (u2.map V.str)) p4 = some (.lst (u2.map V.str)) := upd_same
      generalize upd H4 p4 (.lst (u2.map V.str)) = H5 at t5 g5 ⊢
      refine ⟨p3, p4, _, _, rfl, rfl, t5 _ _ g3, g5, Nat.le_trans (m := 1000) (by simp; omega) (by decide), fun p5 hp5 => ?_⟩
      refine fin p5 ((u1 ++ [o]) ++ u2) _ ((s4.trans t5).trans (same_new hp5)) ⟨by rw [upd_same, List.map_append (l₁ := u1 ++ [o])], by simp; omega, fun y hy => ?_⟩
      rcases List.mem_append.mp hy with z | z
      · rcases List.mem_append.mp z with z | z
        · exact ps94 u1 m1 y z
        · rw [List.mem_singleton.mp z]; exact Nat.le_trans ho (by decide)
      · exact ps94 u2 m2 y z
    refine ⟨_, rfl, rfl, _, rfl, ite2 (fun _ => ?_) (fun _ => ?_)⟩
    · refine ⟨_, rfl, by show 4 ≤ sizeLine; decide, fun p1 hp1 => ?_⟩
      obtain ⟨y, hy, ha⟩ := four_str ", " "," " " "\n" (i := wh % 4) (Int.emod_nonneg _ (by decide)) (Int.emod_lt_of_pos _ (by decide))
      have ly : y.length ≤ 2 := by rcases hy with rfl | rfl | rfl | rfl <;> decide +kernel
      exact ⟨_, rfl, _, _, rfl, rfl, (by decide : (0 : Int) < 4), p1, _, _, _, rfl, rfl, SqL.of upd_same, ha, _, _, rfl, rfl, sz2 _ (by omega), k _ _ (same_new hp1) (by rw [Str.length_append]; omega)⟩
    refine ⟨_, rfl, rfl, _, rfl, ite2 (fun _ => ?_) (fun _ => ?_)⟩
    · refine ⟨rfl, _, rfl, _, rfl, _, rfl, pp, _, rfl, SqL.of hp, fun p1 hp1 => ?_⟩
      have s1 := same_new (o := .lst (cutV (ps.map V.str) none (some pl))) hp1
      have g1 : upd H p1 (.lst (cutV (ps.map V.str) none (some pl))) p1 = some (.lst (cutV (ps.map V.str) none (some pl))) := upd_same
      generalize upd H p1 (.lst (cutV (ps.map V.str) none (some pl))) = H1 at s1 g1 ⊢
      have s2 : Same H1 H1 := .refl H1
      obtain ⟨q1, q2⟩ := mul9 (n := 59 + wh % 4) (by have := Int.emod_nonneg wh (show (4 : Int) ≠ 0 by decide); omega) (by have := Int.emod_lt_of_pos wh (show (0 : Int) < 4 by decide); omega)
      have e4 : ("wet " : Str).length = 4 := by decide +kernel
      have ho : (("wet " : Str) ++ Txt.mul "9" (59 + wh % 4)).length ≤ 94 := by rw [Str.length_append, e4]; omega
      refine ⟨_, rfl, _, _, rfl, rfl, (by decide : (0 : Int) < 4), _, _, rfl, rfl, _, _, rfl, rfl, q1, _, _, rfl, rfl, sz2 _ (by rw [e4]; omega), by show 1 ≤ sizeLine; decide, fun p2 hp2 => ?_⟩
      have t2 := same_new (o := .lst [V.str (("wet " : Str) ++ Txt.mul "9" (59 + wh % 4))]) hp2
      have g2 : upd H1 p2 (.lst [V.str (("wet " : Str) ++ Txt.mul "9" (59 + wh % 4))]) p2 = some (.lst [V.str (("wet " : Str) ++ Txt.mul "9" (59 + wh % 4))]) := upd_same
      generalize upd H1 p2 (.lst [V.str (("wet " : Str) ++ Txt.mul "9" (59 + wh % 4))]) = H3 at t2 g2 ⊢
      obtain ⟨u1, e1, l1, m1⟩ := cut_strs ps none (some pl)
      rw [e1] at g1
      refine ⟨p1, p2, _, _, rfl, rfl, (s2.trans t2) _ _ g1, g2, Nat.le_trans (m := 1000) (by simp; omega) (by decide), fun p3 hp3 => ?_⟩
      have t3 := same_new (o := .lst (u1.map V.str ++ [V.str (("wet " : Str) ++ Txt.mul "9" (59 + wh % 4))])) hp3
      have g3 : upd H3 p3 (.lst (u1.map V.str ++ [V.str (("wet " : Str) ++ Txt.mul "9" (59 + wh % 4))])) p3 = some (.lst ((u1 ++ [(("wet " : Str) ++ Txt.mul "9" (59 + wh % 4))]).map V.str)) := by rw [upd_same, List.map_append]; rfl
      generalize upd H3 p3 (.lst (u1.map V.str ++ [V.str (("wet " : Str) ++ Txt.mul "9" (59 + wh % 4))])) = H4 at t3 g3 ⊢
      have s4 := ((s1.trans s2).trans t2).trans t3
      refine ⟨_, rfl, _, rfl, _, _, rfl, rfl, _, rfl, pp, _, rfl, SqL.of (s4 _ _ hp), fun p4 hp4 => ?_⟩
      obtain ⟨u2, e2, l2, m2⟩ := cut_strs ps (some (pl + 1)) none
      rw [e2]
      have t5 := same_new (o := .lst (u2.map V.str)) hp4
      have g5 : upd H4 p4 (.lst (u2.map V.str)) p4 = some (.lst (u2.map V.str)) := upd_same
      generalize upd H4 p4 (.lst (u2.map V.str)) = H5 at t5 g5 ⊢
      refine ⟨p3, p4, _, _, rfl, rfl, t5 _ _ g3, g5, Nat.le_trans (m := 1000) (by simp; omega) (by decide), fun p5 hp5 => ?_⟩
      refine fin p5 ((u1 ++ [(("wet " : Str) ++ Txt.mul "9" (59 + wh % 4))]) ++ u2) _ ((s4.trans t5).trans (same_new hp5)) ⟨by rw [upd_same, List.map_append (l₁ := u1 ++ [(("wet " : Str) ++ Txt.mul "9" (59 + wh % 4))])], by simp; omega, fun y hy => ?_⟩
      rcases List.mem_append.mp hy with z | z
      · rcases List.mem_append.mp z with z | z
        · exact ps94 u1 m1 y z
        · rw [List.mem_singleton.mp z]; exact Nat.le_trans ho (by decide)
      · exact ps94 u2 m2 y z
    refine ⟨_, rfl, rfl, _, rfl, ite2 (fun _ => ?_) (fun _ => ?_)⟩
    · obtain ⟨u1, e1, l1, m1⟩ := cut_strs ps none (some 1)
      obtain ⟨u2, e2, l2, m2⟩ := cut_strs ps (some 1) none
      refine ⟨rfl, _, rfl, _, rfl, pp, _, rfl, SqL.of hp, fun p1 hp1 => ?_⟩
      rw [e1]
      have s1 := same_new (o := .lst (u1.map V.str)) hp1
      have g1 : upd H p1 (.lst (u1.map V.str)) p1 = some (.lst (u1.map V.str)) := upd_same
      generalize upd H p1 (.lst (u1.map V.str)) = H1 at s1 g1 ⊢
      refine ⟨p1, rfl, ⟨_, SqL.of g1⟩, fun p2 hp2 => ?_⟩
      refine comp_list (K := K) (a := p1) (xs := u1.map V.str) (fun i ys H7 => Same H1 H7 ∧ H7 p2 = some (.lst ys) ∧ ∃ ws : List Str, ys = ws.map V.str ∧ ws.length = i ∧ ∀ y ∈ ws, y.length ≤ 400) ⟨same_new hp2, upd_same, [], rfl, rfl, by simp⟩ (fun i ys H7 h => ⟨h.1.seq (SqL.of g1), h.2.1⟩) ?_ ?_
      · rintro i v ys H7 hi hv ⟨sm, hy, ws, rfl, lw, bw⟩
        rw [List.getElem?_map] at hv
        obtain ⟨q, hq, rfl⟩ := Option.map_eq_some_iff.mp hv
        have lq : q.length ≤ 94 := hb q (m1 q (List.mem_of_getElem? hq))
        have hi' := hi
        rw [List.length_map] at hi'
        refine ⟨(Wk.refl _).set rfl, yes ⟨_, rfl, q, rfl, Nat.le_trans lq (by decide), hy, ?_, nx hi ⟨sm.write hp2, upd_same, ws ++ [Txt.replace q " " " 0"], by simp, by simp [lw], fun y hy => ?_⟩⟩⟩
        · exact Nat.lt_of_le_of_lt (m := 1000) (by rw [List.length_map]; omega) (by decide)
        · rcases List.mem_append.mp hy with z | z
          · exact bw y z
          · rw [List.mem_singleton.mp z]
            have r1 := rep_len (x := q) (y := " ") (z := " 0")
            have r2 : (" 0" : Str).length = 2 := by decide +kernel
            rw [r2] at r1
            omega
      rintro ys H7 ⟨s7, g7, ws, rfl, lw, bw⟩
      rw [List.length_map] at lw
      refine ⟨_, rfl, _, rfl, pp, _, rfl, SqL.of ((s1.trans s7) _ _ hp), fun p3 hp3 => ?_⟩
      rw [e2]
      have t3 := same_new (o := .lst (u2.map V.str)) hp3
      have g3 : upd H7 p3 (.lst (u2.map V.str)) p3 = some (.lst (u2.map V.str)) := upd_same
      generalize upd H7 p3 (.lst (u2.map V.str)) = H8 at t3 g3 ⊢
      refine ⟨p2, p3, _, _, rfl, rfl, t3 _ _ g7, g3, Nat.le_trans (m := 1000) (by simp; omega) (by decide), fun p5 hp5 => ?_⟩
      refine fin p5 (ws ++ u2) _ (((s1.trans s7).trans t3).trans (same_new hp5)) ⟨by rw [upd_same, List.map_append], by simp; omega, fun y hy => ?_⟩
      rcases List.mem_append.mp hy with z | z
      · exact bw y z
      · exact ps94 u2 m2 y z
    refine ⟨_, rfl, rfl, _, rfl, ite2 (fun _ => ?_) (fun _ => ?_)⟩
    · obtain ⟨u1, e1, l1, m1⟩ := cut_strs ps none (some pl)
      obtain ⟨u2, e2, l2, m2⟩ := cut_strs ps (some pl) none
      refine ⟨rfl, _, rfl, _, rfl, _, rfl, pp, _, rfl, SqL.of hp, fun p1 hp1 => ?_⟩
      rw [e1]
      have s1 := same_new (o := .lst (u1.map V.str)) hp1
      have g1 : upd H p1 (.lst (u1.map V.str)) p1 = some (.lst (u1.map V.str)) := upd_same
      generalize upd H p1 (.lst (u1.map V.str)) = H1 at s1 g1 ⊢
      refine ⟨_, rfl, _, rfl, _, rfl, pp, _, rfl, SqL.of (s1 _ _ hp), fun p3 hp3 => ?_⟩
      rw [e2]
      have t3 := same_new (o := .lst (u2.map V.str)) hp3
      have g3 : upd H1 p3 (.lst (u2.map V.str)) p3 = some (.lst (u2.map V.str)) := upd_same
      generalize upd H1 p3 (.lst (u2.map V.str)) = H8 at t3 g3 ⊢
      refine ⟨p3, rfl, ⟨_, SqL.of g3⟩, fun p2 hp2 => ?_⟩
      refine comp_list (K := K) (a := p3) (xs := u2.map V.str) (fun i ys H7 => Same H8 H7 ∧ H7 p2 = some (.lst ys) ∧ ∃ ws : List Str, ys = ws.map V.str ∧ ws.length = i ∧ ∀ y ∈ ws, y.length ≤ 400) ⟨same_new hp2, upd_same, [], rfl, rfl, by simp⟩ (fun i ys H7 h => ⟨h.1.seq (SqL.of g3), h.2.1⟩) ?_ ?_
      · rintro i v ys H7 hi hv ⟨sm, hy, ws, rfl, lw, bw⟩
        rw [List.getElem?_map] at hv
        obtain ⟨q, hq, rfl⟩ := Option.map_eq_some_iff.mp hv
        have lq : q.length ≤ 94 := hb q (m2 q (List.mem_of_getElem? hq))
        have hi' := hi
        rw [List.length_map] at hi'
        refine ⟨(Wk.refl _).set rfl, yes ⟨_, rfl, q, rfl, Nat.le_trans lq (by decide), hy, ?_, nx hi ⟨sm.write hp2, upd_same, ws ++ [Txt.replace q " " " 0"], by simp, by simp [lw], fun y hy => ?_⟩⟩⟩
        · exact Nat.lt_of_le_of_lt (m := 1000) (by rw [List.length_map]; omega) (by decide)
        · rcases List.mem_append.mp hy with z | z
          · exact bw y z
          · rw [List.mem_singleton.mp z]
            have r1 := rep_len (x := q) (y := " ") (z := " 0")
            have r2 : (" 0" : Str).length = 2 := by decide +kernel
            rw [r2] at r1
            omega
      rintro ys H7 ⟨s7, g7, ws, rfl, lw, bw⟩
      rw [List.length_map] at lw
      refine ⟨p1, p2, _, _, rfl, rfl, (t3.trans s7) _ _ g1, g7, Nat.le_trans (m := 1000) (by simp; omega) (by decide), fun p5 hp5 => ?_⟩
      refine fin p5 (u1 ++ ws) _ (((s1.trans t3).trans s7).trans (same_new hp5)) ⟨by rw [upd_same, List.map_append], by simp; omega, fun y hy => ?_⟩
      rcases List.mem_append.mp hy with z | z
      · exact ps94 u1 m1 y z
      · exact bw y z
    exact ⟨_, rfl, k x H (.refl H) (Nat.le_trans hx (by decide))⟩
end
end K8

set_option Elab.async false
set_option linter.all false
set_option maxRecDepth 100000
set_option maxHeartbeats 4000000
namespace K8
open PySem L2
theorem cut_ints (ns : List Int) (lo hi : Option Int) : ∃ cs : List Int, cutV (ns.map V.int) lo hi = cs.map V.int := by
  unfold cutV
  exact ⟨(ns.drop (HT.sIx (ns.map V.int).length 0 lo)).take (HT.sIx (ns.map V.int).length (ns.map V.int).length hi - HT.sIx (ns.map V.int).length 0 lo), by rw [List.map_take, List.map_drop]⟩
theorem cut6 (vs : List V) : (cutV vs none (some 6)).length ≤ 6 := by
  unfold cutV
  rw [List.length_take]
  have : HT.sIx vs.length vs.length (some 6) ≤ 6 := by
    unfold HT.sIx
    simp
    omega
  omega
/-- the law's shares: few, of few pieces, of numbers not too great -/
def GoodS (S : List (List Pc)) : Prop := ∀ ps ∈ S, ps.length ≤ 100 ∧ ∀ p ∈ ps, Q8.PcN p
def strsD (ss : List Str) : PyData := .list (ss.map .str)
theorem strs_all {K : PySem.W.Frag} {H : Hp} : ∀ ss : List Str, DatA K H (ss.map PyData.str) (ss.map V.str)
  | [] => rfl
  | s :: t => ⟨_, _, rfl, rfl, strs_all t⟩
theorem strs_dat {K : PySem.W.Frag} {H : Hp} {a : Addr} {ss : List Str} (h : H a = some (.lst (ss.map V.str))) : DatR K H (strsD ss) (.ref a) := ⟨a, _, rfl, SqL.of h, strs_all ss⟩
theorem pc_ok {p : Pc} (h : Q8.PcN p) : PyData.strOk (Q8.pcT p) = true := by
  have key : ∀ c ∈ Tx.sgs (Q8.pcT p), c < 0x110000 := fun c hc => by
    obtain ⟨m, hm⟩ := Tx.nat_of h.1.1
    obtain ⟨n, hn⟩ := Tx.nat_of h.2.1
    unfold Q8.pcT at hc
    rw [Tx.sgs_append, Tx.sgs_append, hm, hn] at hc
    have d : ∀ c ∈ Tx.sgs ("-" : Str), c = 45 := by decide +kernel
    rcases List.mem_append.mp hc with y | y
    · rcases List.mem_append.mp y with y | y
      · have := Tx.num_digs m c y; omega
      · have := d c y; omega
    · have := Tx.num_digs n c y; omega
  unfold PyData.strOk
  rw [← Array.all_toList, List.all_eq_true]
  intro c hc
  exact decide_eq_true (key c hc)
theorem strsD_can {ss : List Str} (h : ∀ y ∈ ss, PyData.strOk y = true) : (strsD ss).canLay0 = true := by
  show PyData.canLayAll0 (ss.map .str) = true
  rw [PyProof.Rows.canLayAll_strs', List.all_eq_true]
  exact h
theorem strs_depth : ∀ l : List Str, PyData.depthAll (l.map PyData.str) ≤ 2
  | [] => by simp [PyData.depthAll]
  | r :: t => by
    have ih := strs_depth t
    simp only [List.map_cons, PyData.depthAll, PyData.depth] at ih ⊢
    omega
theorem strsD_depth (ss : List Str) : (strsD ss).depth ≤ 8 := by
  have h := strs_depth ss
  simp only [strsD, PyData.depth]
  omega
theorem eqv_strs_nil (ss : List Str) : PyData.eqv (strsD ss) (strsD []) = decide (ss = []) := by
  cases ss <;> simp [strsD, PyData.eqv, PyData.eqvAll]
theorem join_none : Str.join " " ["none"] = ("none" : Str) := by decide +kernel
section
variable {P : Program} {w : World} {K : PySem.W.Frag} {mg : Str → Option Value} {base : Heap}
seal L2.PSs L2.PS L2.PE L2.PA L2.PT L2.PW
def spShares (K : PySem.W.Frag) : Sp := fun vs H Q _ => ∃ (a : Addr) (ns : List Int), vs = [.ref a] ∧ SqL K H a (ns.map V.int) ∧
  ∀ p as S H', Same H H' → H p = none → SsAt H' p as S → S.length ≤ 6 → GoodS S → Q (.ref p) H'
theorem scSh : FnScope ["_law_script", "_law_shares_here", "_law_cell", "_law_at", "_law_share", "_law_k"] ["_law_script"] (defScope sShares) := ⟨rfl, rfl, rfl, by decide +kernel, rfl, by decide +kernel, by decide +kernel⟩
theorem ok_shares {f : Addr} {fd : FuncData} (F : FunG K "_law_shares" "_law_shares" sShares f fd .none) (T : Pl mg) : FnOk P w K mg base CX0 1 f fd ["_law_script"] (spShares K) := by
  refine F.ok scSh (fun vs H Q E h => ?_) (fun cdv A outer s H vs Q E hr h => ?_)
  · obtain ⟨_, _, rfl, _⟩ := h; rfl
  · obtain ⟨sc, ns, rfl, hS, k⟩ := h
    refine ⟨_, pss_cons (ps_set (i := 1) scSh.nd rfl (Or.inl rfl) (pe_lst pa_nil))
      (pss_cons (ps_for PassesOwn.never rfl (pi_list (pe_slice sl_list (pv 0) po_none (po_some pe_int))) (pg_name (i := 2) scSh.nd rfl (Or.inl rfl))
        (pss_cons (ps_set (i := 3) scSh.nd rfl (Or.inl rfl) (pe_op op_mod (pe_op op_fdiv (pv 2) pe_int) (pe_op op_pow pe_int pe_int)))
        (pss_cons (ps_set (i := 4) scSh.nd rfl (Or.inl rfl) (pe_lst pa_nil))
        (pss_cons (ps_for PassesOwn.never rfl (pi_range1 rfl T.range (pa_cons (pe_op op_mod (pv 2) pe_int) pa_nil)) (pg_name (i := 5) scSh.nd rfl (Or.inl rfl))
          (pss_cons (ps_expr (pe_bm PySem.F.plainAttrs_list PySem.F.slot_list_append PySem.F.type_list_append mt_append (pv 4) (pa_cons (pe_tup (pa_cons (pv 3) (pa_cons (pe_op op_add (pe_op op_add (pv 3) pe_int) (pe_op op_mod (pe_op op_fdiv (pv 2) (pe_op op_add pe_int (pv 5))) pe_int)) pa_nil))) pa_nil)))
          (pss_one (ps_set (i := 3) scSh.nd rfl (Or.inl rfl) (pe_op op_add (pe_op op_add (pe_ix ix_tup (pe_ix ix_list (pv 4) (pe_un un_neg pe_int) (fun _ _ => rfl)) pe_int (fun _ _ => rfl)) pe_int) (pe_op op_mod (pe_op op_fdiv (pv 2) (pe_op op_add pe_int (pv 5))) pe_int))))))
        (pss_one (ps_expr (pe_bm PySem.F.plainAttrs_list PySem.F.slot_list_append PySem.F.type_list_append mt_append (pv 1) (pa_cons (pv 4) pa_nil))))))))
      (pss_one (ps_ret (pv 1)))), ?_⟩
    refine ⟨Nat.zero_le _, fun p hp => ?_⟩
    have s0 := same_new (o := .lst []) hp
    have g0 : upd H p (.lst []) p = some (.lst []) := upd_same
    generalize upd H p (.lst []) = H0 at s0 g0 ⊢
    obtain ⟨cs, hcs⟩ := cut_ints ns none (some 6)
    have lcs := cut6 (ns.map V.int)
    refine ⟨_, rfl, _, rfl, sc, _, rfl, s0.seq hS, fun pS hpS => ?_⟩
    rw [hcs] at lcs ⊢
    rw [List.length_map] at lcs
    have npS : p ≠ pS := fun e => by rw [← e, g0] at hpS; cases hpS
    have s1 := s0.trans (same_new (o := .lst (cs.map V.int)) hpS)
    have g1 : upd H0 pS (.lst (cs.map V.int)) p = some (.lst []) := by rw [upd_ne npS]; exact g0
    have gS : upd H0 pS (.lst (cs.map V.int)) pS = some (.lst (cs.map V.int)) := upd_same
    generalize upd H0 pS (.lst (cs.map V.int)) = H1 at s1 g1 gS ⊢
    refine ⟨pS, rfl, ⟨_, SqL.of gS⟩, for_list (K := K) (a := pS) (xs := cs.map V.int) (fun i σ H2 => ∃ as S z2 z3 z4 z5, σ = [some (.ref sc), some (.ref p), z2, z3, z4, z5] ∧ Same H H2 ∧ SsAt H2 p as S ∧ H2 pS = some (.lst (cs.map V.int)) ∧ (∀ a ∈ as, a ≠ p) ∧ S.length = i ∧ GoodS S)
      ⟨[], [], none, none, none, none, rfl, s1, ⟨g1, .nil⟩, gS, by simp, rfl, by intro ps h; simp at h⟩ (fun i σ H2 _ ⟨_, _, _, _, _, _, _, _, _, h, _⟩ => SqL.of h) ?_ ?_⟩
    · rintro i xv σ H2 hx ⟨as, S, z2, z3, z4, z5, rfl, sm, hSs, hpS2, nas, hlen, hG⟩
      have hi : i < cs.length := by have := (List.getElem?_eq_some_iff.mp hx).1; simpa using this
      rw [List.getElem?_map] at hx
      obtain ⟨c, hc, rfl⟩ := Option.map_eq_some_iff.mp hx
      refine ⟨_, rfl, _, _, rfl, rfl, ⟨by decide, by decide⟩, _, _, rfl, rfl, ⟨by decide, by decide, by decide⟩, _, _, rfl, rfl, (by decide : (0 : Int) < 10 ^ 18), ?_⟩
      refine ⟨Nat.zero_le _, fun ph hph => ?_⟩
      have t3 := same_new (o := .lst []) hph
      have g3 : upd H2 ph (.lst []) ph = some (.lst []) := upd_same
      have nph : p ≠ ph := fun e => by rw [← e, hSs.1] at hph; cases hph
      have nphS : pS ≠ ph := fun e => by rw [← e, hpS2] at hph; cases hph
      have nph2 : ∀ a ∈ as, a ≠ ph := fun a ha e => by
        obtain ⟨j, hj⟩ := List.getElem?_of_mem ha
        obtain ⟨q, _, ⟨ys, hq, _⟩⟩ := paired_get hSs.2 hj
        rw [e, hph] at hq; cases hq
      have hph0 : H ph = none := sm.free hph
      have hSs3 := hSs.mono t3
      have hpS3 := t3 _ _ hpS2
      have s3 := sm.trans t3
      generalize upd H2 ph (.lst []) = H3 at t3 g3 hSs3 hpS3 s3 ⊢
      have m0 := Int.emod_nonneg (c / 4) (show (10 ^ 18 : Int) ≠ 0 by decide)
      have m1 := Int.emod_lt_of_pos (c / 4) (show (0 : Int) < 10 ^ 18 by decide)
      have r0 := Int.emod_nonneg c (show (4 : Int) ≠ 0 by decide)
      have r1 := Int.emod_lt_of_pos c (show (0 : Int) < 4 by decide)
      refine ⟨_, rfl, _, _, rfl, rfl, (by decide : (0 : Int) < 4), _, rfl, by show -(2 ^ 62) ≤ c % 4; omega, by show c % 4 < 2 ^ 62; omega, ?_⟩
      refine for_range (lo := 0) (n := (c % 4).toNat) (fun j σ H4 => ∃ ps at_ z5, σ = [some (.ref sc), some (.ref p), some (.int c), some (.int at_), some (.ref ph), z5] ∧ Same H H4 ∧ SsAt H4 p as S ∧ H4 pS = some (.lst (cs.map V.int)) ∧ ShAt H4 ph ps ∧ ps.length = j ∧ 0 ≤ at_ ∧ at_ ≤ 10 ^ 18 + j * 2000 ∧ ∀ q ∈ ps, Q8.PcN q)
        ⟨[], c / 4 % 10 ^ 18, _, rfl, s3, hSs3, hpS3, ⟨[], g3, .nil⟩, rfl, m0, by omega, by simp⟩ ?_ ?_
      · rintro j σ H4 hj ⟨ps, at_, z5', rfl, s4, hSs4, hpS4, ⟨xs, hx4, hP4⟩, lps, a0, a1, hN⟩
        have hj3 : j < 3 := by omega
        have lx := Paired.length hP4
        have n0 := Int.emod_nonneg (c / (40 + (0 + (j : Int)))) (show (1000 : Int) ≠ 0 by decide)
        have n1 := Int.emod_lt_of_pos (c / (40 + (0 + (j : Int)))) (show (0 : Int) < 1000 by decide)
        have o0 := Int.emod_nonneg (c / (90 + (0 + (j : Int)))) (show (50 : Int) ≠ 0 by decide)
        have o1 := Int.emod_lt_of_pos (c / (90 + (0 + (j : Int)))) (show (0 : Int) < 50 by decide)
        refine ⟨_, rfl, .inl ⟨rfl, _, SqL.of hx4⟩, _, rfl, _, rfl, _, _, rfl, rfl, _, rfl, _, rfl, _, _, rfl, rfl, _, _, rfl, rfl, ⟨by show (0 : Int) < 40 + (0 + (j : Int)); omega, by show (40 : Int) + (0 + (j : Int)) < 1073741824; omega⟩, _, _, rfl, rfl, (by decide : (0 : Int) < 1000), _, _, rfl, rfl, by show 2 ≤ sizeLine; decide, fun Z hZ => ?_⟩
        dsimp only
        generalize c / (40 + (0 + (j : Int))) % 1000 = d at n0 n1 ⊢
        have t5 := same_new (o := .tup [V.int at_, .int (at_ + 1 + d)]) hZ
        have g5 : upd H4 Z (.tup [V.int at_, .int (at_ + 1 + d)]) Z = some (.tup [V.int at_, .int (at_ + 1 + d)]) := upd_same
        have hx5 := t5 _ _ hx4
        have hP5 : PcsAt (upd H4 Z (.tup [V.int at_, .int (at_ + 1 + d)])) xs ps := hP4.mono t5.tps
        have hSs5 := hSs4.mono t5
        have hpS5 := t5 _ _ hpS4
        have s5 := s4.trans t5
        generalize upd H4 Z (.tup [V.int at_, .int (at_ + 1 + d)]) = H5 at t5 g5 hx5 hP5 hSs5 hpS5 s5 ⊢
        refine ⟨ph, xs, _, rfl, rfl, hx5, Nat.lt_of_le_of_lt (m := 100) (by omega) (by decide), ?_⟩
        have tp := tps_lst (o := .lst (xs ++ [V.ref Z])) hx5
        have g6 : upd H5 ph (.lst (xs ++ [V.ref Z])) ph = some (.lst (xs ++ [V.ref Z])) := upd_same
        have hP6 : PcsAt (upd H5 ph (.lst (xs ++ [V.ref Z]))) (xs ++ [V.ref Z]) (ps ++ [(at_, at_ + 1 + d)]) := Paired.snoc (hP5.mono tp) ⟨Z, rfl, tp _ _ g5⟩
        have gZ := tp _ _ g5
        have hSs6 : SsAt (upd H5 ph (.lst (xs ++ [V.ref Z]))) p as S := hSs5.write hx5 nph nph2
        have hpS6 : upd H5 ph (.lst (xs ++ [V.ref Z])) pS = some (.lst (cs.map V.int)) := by rw [upd_ne nphS]; exact hpS5
        have s6 : Same H (upd H5 ph (.lst (xs ++ [V.ref Z]))) := s5.write hph0
        generalize upd H5 ph (.lst (xs ++ [V.ref Z])) = H6 at g6 hP6 gZ hSs6 hpS6 s6 ⊢
        refine ⟨_, rfl, _, rfl, ph, _, -1, _, rfl, rfl, SqL.of g6, atI_last _ _, Z, _, 1, _, rfl, rfl, SqT.of gZ, rfl, _, _, rfl, rfl, _, rfl, _, rfl, _, _, rfl, rfl, _, _, rfl, rfl, ⟨by show (0 : Int) < 90 + (0 + (j : Int)); omega, by show (90 : Int) + (0 + (j : Int)) < 1073741824; omega⟩, _, _, rfl, rfl, (by decide : (0 : Int) < 50), _, _, rfl, rfl, ?_⟩
        refine ⟨ps ++ [(at_, at_ + 1 + d)], at_ + 1 + d + 1 + c / (90 + (0 + (j : Int))) % 50, _, rfl, s6, hSs6, hpS6, ⟨_, g6, hP6⟩, by simp [lps], by omega, by omega, fun q hq => ?_⟩
        rcases List.mem_append.mp hq with y | y
        · exact hN q y
        · rw [List.mem_singleton.mp y]
          have big : (10 : Int) ^ 18 + 100000 < 10 ^ 90 := by decide
          exact ⟨⟨a0, by show at_ < 10 ^ 90; omega⟩, ⟨by show 0 ≤ at_ + 1 + d; omega, by show at_ + 1 + d < 10 ^ 90; omega⟩⟩
      · rintro σ H4 ⟨ps, at_, z5, rfl, s4, hSs4, hpS4, hSh4, lps, _, _, hN⟩
        refine ⟨_, rfl, .inl ⟨rfl, _, SqL.of hSs4.1⟩, _, rfl, p, _, _, rfl, rfl, hSs4.1, ?_, ?_⟩
        · have := Paired.length hSs4.2
          exact Nat.lt_of_le_of_lt (m := 100) (by rw [List.length_map]; omega) (by decide)
        · refine ⟨as ++ [ph], S ++ [ps], _, _, _, _, rfl, s4.write hp, ⟨by rw [upd_same, List.map_append]; rfl, ?_⟩, by rw [upd_ne npS.symm]; exact hpS4, fun a ha => ?_, by simp [hlen], fun q hq => ?_⟩
          · exact Paired.snoc (ShsAt.write hSs4.1 hSs4.2 nas) (hSh4.write nph.symm hSs4.1)
          · rcases List.mem_append.mp ha with y | y
            · exact nas a y
            · rw [List.mem_singleton.mp y]; exact nph.symm
          · rcases List.mem_append.mp hq with y | y
            · exact hG q y
            · rw [List.mem_singleton.mp y]; exact ⟨by omega, hN⟩
    · rintro σ H2 ⟨as, S, z2, z3, z4, z5, rfl, sm, hSs, hpS2, nas, hlen, hG⟩
      rw [List.length_map] at hlen
      exact ⟨_, rfl, k p as S H2 sm hp hSs (by omega) hG⟩
/-! _law_shares_text -/
def spShT (K : PySem.W.Frag) : Sp := fun vs H Q _ => ∃ p as S, vs = [.ref p] ∧ SsAt H p as S ∧ S.length ≤ 100 ∧ GoodS S ∧ ∀ H', Same H H' → Q (.str (Q8.ssT S)) H'
theorem scSt : FnScope ["_law_shares_here", "_law_words", "_law_share", "_law_pieces"] ["_law_shares_here"] (defScope sShT) := ⟨rfl, rfl, rfl, by decide +kernel, rfl, by decide +kernel, by decide +kernel⟩
theorem ok_sht {f : Addr} {fd : FuncData} (F : FunG K "_law_shares_text" "_law_shares_text" sShT f fd .none) (T : Pl mg) : FnOk P w K mg base CX0 1 f fd ["_law_shares_here"] (spShT K) := by
  refine F.ok scSt (fun vs H Q E h => ?_) (fun cdv A outer s H vs Q E hr h => ?_)
  · obtain ⟨_, _, _, rfl, _⟩ := h; rfl
  · obtain ⟨pS, as, S, rfl, hS, hl, hG, k⟩ := h
    refine ⟨_, pss_cons (ps_set (i := 1) scSt.nd rfl (Or.inl rfl) (pe_lst pa_nil))
      (pss_cons (ps_for PassesOwn.never rfl (pi_list (pv 0)) (pg_name (i := 2) scSt.nd rfl (Or.inl rfl))
        (pss_cons (ps_comp (i := 3) (Nc := ["_law_start", "_law_end"]) (fv := [none, none]) ⟨rfl, by decide +kernel, rfl, by decide +kernel, trivial, by decide +kernel, rfl, trivial⟩ scSt.nd rfl (Or.inl rfl) rfl (pi_list (pv 2))
            (fun _ _ _ _ _ => pg_tupK (K := K) (n := 2) rfl rfl (pgs_cons (pg_name (i := 0) (show (["_law_start", "_law_end"] : List Str).Nodup by decide +kernel) rfl (Or.inl rfl)) (pgs_cons (pg_name (i := 1) (show (["_law_start", "_law_end"] : List Str).Nodup by decide +kernel) rfl (Or.inl rfl)) pgs_nil)))
            (fun _ _ _ _ _ => pif_nil) (fun _ _ _ _ _ => pe_op op_add_str (pe_op op_add_str (pe_callTy call_str_int rfl T.str PyProof.Rows.boot_str (pa_cons (pv 0) pa_nil)) pe_str) (pe_callTy call_str_int rfl T.str PyProof.Rows.boot_str (pa_cons (pv 1) pa_nil))))
        (pss_cons (ps_if (pt_cmpR (op_eqD hr.units) (pv 3) (pe_lst pa_nil) (nomark _)) (pss_one (ps_set (i := 3) scSt.nd rfl (Or.inl rfl) (pe_lst (pa_cons pe_str pa_nil)))) pss_nil)
        (pss_one (ps_expr (pe_bm PySem.F.plainAttrs_list PySem.F.slot_list_append PySem.F.type_list_append mt_append (pv 1) (pa_cons (pe_bm PySem.F.plainAttrs_str PySem.F.slot_str_join PySem.F.type_str_join mt_join pe_str (pa_cons (pv 3) pa_nil)) pa_nil)))))))
      (pss_one (ps_ret (pe_bm PySem.F.plainAttrs_str PySem.F.slot_str_join PySem.F.type_str_join mt_join pe_str (pa_cons (pv 1) pa_nil))))), ?_⟩
    have hlen := Paired.length hS.2
    refine ⟨Nat.zero_le _, fun pw hpw => ?_⟩
    refine ⟨_, rfl, pS, rfl, ⟨_, (same_new hpw).seq (SqL.of hS.1)⟩, for_list (K := K) (a := pS) (xs := as.map V.ref) (fun i σ H2 => ∃ z2 z3, σ = [some (.ref pS), some (.ref pw), z2, z3] ∧ Same H H2 ∧ H2 pw = some (.lst (((S.take i).map Q8.shT).map V.str)))
      ⟨none, none, rfl, same_new hpw, upd_same⟩ (fun i σ H2 _ ⟨_, _, _, s2, _⟩ => s2.seq (SqL.of hS.1)) ?_ ?_⟩
    · rintro i x σ H2 hx ⟨z2, z3, rfl, sm, hw⟩
      have hi : i < as.length := by have := (List.getElem?_eq_some_iff.mp hx).1; simpa using this
      rw [List.getElem?_map] at hx
      obtain ⟨a1, ha1, rfl⟩ := Option.map_eq_some_iff.mp hx
      obtain ⟨ps, hz, hz2⟩ := paired_get hS.2 ha1
      obtain ⟨lps, hN⟩ := hG ps (List.mem_of_getElem? hz)
      obtain ⟨xs, hxs, hP⟩ := hz2.mono sm
      have lx := Paired.length hP
      refine ⟨_, rfl, a1, rfl, ⟨_, SqL.of hxs⟩, fun p hp => ?_⟩
      refine comp_list (K := K) (a := a1) (xs := xs) (fun j ys H3 => Same H2 H3 ∧ H3 p = some (.lst ys) ∧ ys = ((ps.take j).map Q8.pcT).map V.str) ⟨same_new hp, upd_same, rfl⟩ (fun j ys H3 h => ⟨h.1.seq (SqL.of hxs), h.2.1⟩) ?_ ?_
      · rintro j y ys H3 hj hy ⟨s3, g3, rfl⟩
        obtain ⟨r, hr1, hr2⟩ := paired_get hP hy
        obtain ⟨q, rfl, hq⟩ := hr2.mono s3.tps
        have hn := hN r (List.mem_of_getElem? hr1)
        have rl := Q8.pc_len hn
        have rl3 : ((toString r.1 : Str) ++ ("-" : Str)).length + (toString r.2 : Str).length ≤ 181 := by
          unfold Q8.pcT at rl
          rw [Str.length_append] at rl; exact rl
        have rl2 : (toString r.1 : Str).length + ("-" : Str).length ≤ 181 := by
          rw [Str.length_append] at rl3; omega
        refine ⟨q, _, rfl, SqT.of hq, rfl, _, _, rfl, _, _, rfl, rfl, ((Wk.refl _).set rfl).set rfl, yes ?_⟩
        refine ⟨_, rfl, r.1, rfl, Q8.num_log hn.1, _, _, rfl, rfl, Nat.le_trans rl2 (by decide), _, rfl, r.2, rfl, Q8.num_log hn.2, _, _, rfl, rfl, Nat.le_trans rl3 (by decide), g3, ?_, nx hj ⟨s3.write hp, upd_same, ?_⟩⟩
        · refine Nat.lt_of_le_of_lt (m := 1000) ?_ (by decide)
          simp only [List.length_map, List.length_take]; omega
        · rw [take_snoc hr1]; simp [Q8.pcT]
      rintro ys H3 ⟨s3, g3, rfl⟩
      rw [lx, List.take_length] at g3
      have tk : S.take (i + 1) = S.take i ++ [ps] := take_snoc hz
      -- the word put behind
      have put : ∀ H5, Same H2 H5 → Same H (upd H5 pw (.lst (((S.take i).map Q8.shT).map V.str ++ [.str (Q8.shT ps)]))) ∧ upd H5 pw (.lst (((S.take i).map Q8.shT).map V.str ++ [.str (Q8.shT ps)])) pw = some (.lst (((S.take (i + 1)).map Q8.shT).map V.str)) := fun H5 s5 =>
        ⟨(sm.trans s5).write hpw, by rw [upd_same, tk]; simp⟩
      have lw : (((S.take i).map Q8.shT).map V.str).length < sizeLine := by
        refine Nat.lt_of_le_of_lt (m := 1000) ?_ (by decide)
        simp only [List.length_map, List.length_take]; omega
      refine ⟨_, rfl, Nat.zero_le _, fun pe hpe => ?_⟩
      have t4 := same_new (o := .lst []) hpe
      have g4 : upd H3 pe (.lst []) pe = some (.lst []) := upd_same
      generalize upd H3 pe (.lst []) = H4 at t4 g4 ⊢
      have s4 := s3.trans t4
      refine ⟨strsD (ps.map Q8.pcT), strsD [], strs_dat (t4 _ _ g3), strs_dat g4, strsD_can (fun y hy => by obtain ⟨r, hr, rfl⟩ := List.mem_map.mp hy; exact pc_ok (hN r hr)), strsD_can (by simp), strsD_depth _, _, rfl, ?_⟩
      rw [eqv_strs_nil]
      refine ite2 (fun z => ?_) (fun z => ?_)
      · have e : ps = [] := by simpa using of_decide_eq_true z
        have es : Q8.shT ps = "none" := by unfold Q8.shT; rw [if_pos e]
        refine ⟨by show 1 ≤ sizeLine; decide, fun pn hpn => ?_⟩
        have t5 := same_new (o := .lst [V.str "none"]) hpn
        have g5 : upd H4 pn (.lst [V.str "none"]) pn = some (.lst [V.str "none"]) := upd_same
        generalize upd H4 pn (.lst [V.str "none"]) = H5 at t5 g5 ⊢
        have s5 := s4.trans t5
        refine ⟨_, rfl, .inl ⟨rfl, _, SqL.of (s5 _ _ hw)⟩, rfl, _, rfl, _, pn, ["none"], rfl, rfl, SqL.of g5, by decide +kernel, pw, _, _, rfl, rfl, s5 _ _ hw, lw, ?_⟩
        rw [join_none, ← es]
        exact ⟨_, _, rfl, (put H5 s5).1, (put H5 s5).2⟩
      · have ne : ps ≠ [] := fun e => z (decide_eq_true (by rw [e]; rfl))
        have es : Q8.shT ps = Str.join " " (ps.map Q8.pcT) := by unfold Q8.shT; rw [if_neg ne]
        refine ⟨_, rfl, .inl ⟨rfl, _, SqL.of (s4 _ _ hw)⟩, rfl, _, rfl, _, p, ps.map Q8.pcT, rfl, rfl, SqL.of (t4 _ _ g3), Q8.join_ok (B := 181) (n := 100) (fun y hy => ?_) (by rw [List.length_map]; exact lps) (by decide +kernel) (by decide), pw, _, _, rfl, rfl, s4 _ _ hw, lw, ?_⟩
        · obtain ⟨r, hr, rfl⟩ := List.mem_map.mp hy
          exact Q8.pc_len (hN r hr)
        · rw [← es]
          exact ⟨_, _, rfl, (put H4 s4).1, (put H4 s4).2⟩
    · rintro σ H2 ⟨z2, z3, rfl, sm, hw⟩
      rw [List.length_map, hlen, List.take_length] at hw
      refine ⟨rfl, _, rfl, _, pw, S.map Q8.shT, rfl, rfl, SqL.of hw, Q8.join_ok (B := 18400) (n := 100) (fun y hy => ?_) (by rw [List.length_map]; exact hl) (by decide +kernel) (by decide), k H2 sm⟩
      obtain ⟨r, hr, rfl⟩ := List.mem_map.mp hy
      exact Q8.sh_len (hG r hr).1 (hG r hr).2
end
end K8

set_option Elab.async false
set_option linter.all false
set_option maxRecDepth 100000
set_option maxHeartbeats 4000000
namespace K8
open PySem L2
theorem rdPart_nn {x : Str} {r : Bk.Rw} (h : Tx.rdPart x = some r) : 0 ≤ r.2 := by
  unfold Tx.rdPart at h
  have v : ∀ l, 0 ≤ Tx.val l := fun l => Int.natCast_nonneg _
  split at h
  · split at h
    · split at h
      · cases h; exact v _
      · split at h
        · cases h; exact v _
        · cases h
    · cases h
  · cases h
theorem rdAll_nn : ∀ ps : List Str, (∀ r ∈ (Tx.rdAll ps).1, 0 ≤ r.2) ∧ (Tx.rdAll ps).1.length ≤ ps.length
  | [] => ⟨by simp [Tx.rdAll], by simp [Tx.rdAll]⟩
  | p :: t => by
    have ih := rdAll_nn t
    unfold Tx.rdAll
    cases e : Tx.rdPart p with
    | none => exact ⟨by simp, by simp⟩
    | some q =>
      refine ⟨fun r hr => ?_, by simpa using ih.2⟩
      rcases List.mem_cons.mp hr with y | y
      · rw [y]; exact rdPart_nn e
      · exact ih.1 r y
theorem rdText_nn {x : Str} (h : x.length ≤ 50000) : (∀ r ∈ (Tx.rdText x).1, 0 ≤ r.2) ∧ (Tx.rdText x).1.length ≤ 60000 := by
  unfold Tx.rdText
  split
  · exact ⟨by simp, by simp⟩
  · have h1 := rdAll_nn (Txt.split x ", ")
    have h2 := PyProof.Rows.split_le x (", " : Str)
    exact ⟨h1.1, by omega⟩
theorem put_le {B C : Int} (bs : List Bk.Rw) (r : Bk.Rw) (h : ∀ x ∈ bs, x.2 ≤ C) (h0 : 0 ≤ r.2) (h1 : r.2 ≤ B) (hC : 0 ≤ C) (hB : 0 ≤ B) : ∀ x ∈ Bk.put bs r, x.2 ≤ C + B := fun x hx => by
  rcases Bk.snoc_cases bs with rfl | ⟨i, b, rfl⟩
  · rw [Bk.put_nil] at hx
    split at hx
    · rw [List.mem_singleton.mp hx]; omega
    · simp at hx
  · rw [Bk.put_snoc] at hx
    have hb := h b (by simp)
    have hi : ∀ y ∈ i, y.2 ≤ C := fun y hy => h y (by simp [hy])
    split at hx
    · rcases List.mem_append.mp hx with y | y
      · have := hi x y; omega
      · rw [List.mem_singleton.mp y]; show b.2 + r.2 ≤ C + B; omega
    · split at hx
      · rcases List.mem_append.mp hx with y | y
        · have := h x y; omega
        · rw [List.mem_singleton.mp y]; omega
      · have := h x hx; omega
theorem tidy_le {B : Int} (hB : 0 ≤ B) : ∀ (n : Nat) (rs : List Bk.Rw), rs.length = n → (∀ r ∈ rs, 0 ≤ r.2 ∧ r.2 ≤ B) → ∀ x ∈ Bk.tidy rs, x.2 ≤ n * B
  | 0, rs, e, _, x, hx => by
    rw [List.length_eq_zero_iff.mp e] at hx
    exact absurd hx (by simp [Bk.tidy])
  | n + 1, rs, e, h, x, hx => by
    rcases Bk.snoc_cases rs with rfl | ⟨i, b, rfl⟩
    · simp at e
    · rw [Bk.tidy_snoc] at hx
      have ih := tidy_le hB n i (by simpa using e) fun r hr => h r (by simp [hr])
      have hb := h b (by simp)
      have := put_le (C := n * B) (B := B) (Bk.tidy i) b ih hb.1 hb.2 (Int.mul_nonneg (Int.natCast_nonneg _) hB) hB x hx
      have e2 : ((n + 1 : Nat) : Int) * B = n * B + B := by rw [Int.natCast_add, Int.add_mul]; simp
      omega
theorem bankT_one (r : Bk.Rw) : Tx.bankT [r] = Tx.rowT r := by
  apply Tx.sgs_inj
  simp [Tx.bankT, Str.join, Tx.sgs]
theorem five {i : Int} (h0 : 0 ≤ i) (h1 : i < 5) (a b c d e : V) : ∃ v, (v = a ∨ v = b ∨ v = c ∨ v = d ∨ v = e) ∧ atI [a, b, c, d, e] i = some v := by
  have : i = 0 ∨ i = 1 ∨ i = 2 ∨ i = 3 ∨ i = 4 := by omega
  rcases this with rfl | rfl | rfl | rfl | rfl
  · exact ⟨a, .inl rfl, rfl⟩
  · exact ⟨b, .inr (.inl rfl), rfl⟩
  · exact ⟨c, .inr (.inr (.inl rfl)), rfl⟩
  · exact ⟨d, .inr (.inr (.inr (.inl rfl))), rfl⟩
  · exact ⟨e, .inr (.inr (.inr (.inr rfl))), rfl⟩
theorem paired_append {α β : Type} {F : α → β → Prop} : ∀ {a : List α} {b : List β} {c : List α} {d : List β}, Paired F a b → Paired F c d → Paired F (a ++ c) (b ++ d)
  | _, _, _, _, .nil, h => h
  | _, _, _, _, .cons x t, h => .cons x (paired_append t h)
theorem call_list_ofK {X : Cx} {K : PySem.W.Frag} (h : X.K = K) : CallR X (.type "list") (fun xs H Q => ∃ p ys, xs = [.ref p] ∧ (SqL K H p ys ∨ SqT K H p ys) ∧ ∀ l, H l = none → Q (.ref l) (upd H l (.lst ys))) := h ▸ call_list_of
section
variable {P : Program} {w : World} {K : PySem.W.Frag} {mg : Str → Option Value} {base : Heap}
seal L2.PSs L2.PS L2.PE L2.PA L2.PT L2.PW
def spLaw (K : PySem.W.Frag) : Sp := fun vs H Q _ => ∃ (a : Addr) (ns : List Int), vs = [.ref a] ∧ SqL K H a (ns.map V.int) ∧ ns.length ≤ 63 ∧ ∀ H', Q (.bl true) H'
abbrev nmL : List Str := ["_law_script", "_law_rows", "_law_bank_here", "_law_text_here", "_law_spoilt_here", "_law_due", "_law_found", "_law_again", "_law_thing", "_law_handed", "_law_told", "_law_shares_here", "_law_asked_here"]
theorem scLaw : FnScope nmL ["_law_script"] (defScope sLaw) := ⟨rfl, rfl, rfl, by decide +kernel, rfl, by decide +kernel, by decide +kernel⟩
theorem ok_law {f fC fW fR fT fX fSi fO fSp fN fRd fA fB fRf fSh fSt gS gSs gRd aX aB e1 e2 e3 e4 e5 e6 : Addr} {fd dC dW dR dT dX dSi dO dSp dN dRd dA dB dRf dSh dSt hS hSs hRd : FuncData} (F : FunG K "law" "law" sLaw f fd .none) (T : Pl mg) (R : Od K mg aX aB e1 e2 e3 e4 e5 e6)
    (DC : Df K mg "_law_cell_at" sCell ["_law_script", "_law_k"] fC dC) (DW : Df K mg "_law_whole" sLWh ["_law_found"] fW dW) (DR : Df K mg "_law_row" sRow ["_law_cell"] fR dR) (DT : Df K mg "_law_tidy" sLTidy ["_law_rows"] fT dT)
    (DX : Df K mg "_law_text" sText ["_law_rows"] fX dX) (DSi : Df K mg "_law_sign" sSign ["_law_cell"] fSi dSi) (DO : Df K mg "_law_odd_part" sOddP ["_law_cell"] fO dO) (DSp : Df K mg "_law_spoilt" sSpoilt ["_law_text_here", "_law_parts", "_law_script"] fSp dSp)
    (DN : Df K mg "_law_number" sNumber ["_law_word"] fN dN) (DRd : Df K mg "_law_read" sLRead ["_law_text_here"] fRd dRd) (DA : Df K mg "_law_asked" sAsked ["_law_thing"] fA dA) (DB : Df K mg "_law_bank" sBank ["_law_found", "_law_due"] fB dB)
    (DRf : Df K mg "_law_refused" sRfd ["_law_found", "_law_place"] fRf dRf) (DSh : Df K mg "_law_shares" sShares ["_law_script"] fSh dSh) (DSt : Df K mg "_law_shares_text" sShT ["_law_shares_here"] fSt dSt)
    (gR : mg "read" = some (.ref gRd)) (kpR : PySem.W.keepIn K (.ref gRd) = true) (bR : Binds K hRd ["text"] []) (GRd : FnOk P w K mg base (CXE P w) 4 gRd hRd ["text"] (Q8.spRead K aX))
    (glS : mg "shown" = some (.ref gS)) (kpS : PySem.W.keepIn K (.ref gS) = true) (bS : Binds K hS ["bank"] []) (GS : FnOk P w K mg base CX0 1 gS hS ["bank"] (Q8.spShown K))
    (glSs : mg "shown_shares" = some (.ref gSs)) (kpSs : PySem.W.keepIn K (.ref gSs) = true) (bSs : Binds K hSs ["shares"] []) (GSs : FnOk P w K mg base CX0 2 gSs hSs ["shares"] (Q8.spShSs K)) :
    FnOk P w K mg base CX0 6 f fd ["_law_script"] (spLaw K) := by
  have GC : FnOk P w K mg base CX0 1 fC dC ["_law_script", "_law_k"] (spCell K) := ok_cell DC.fn T
  have GRo : FnOk P w K mg base CX0 1 fR dR ["_law_cell"] spRow := ok_row DR.fn T
  have GT : FnOk P w K mg base CX0 1 fT dT ["_law_rows"] (spLTidy K) := ok_ltidy DT.fn T
  have GX : FnOk P w K mg base CX0 1 fX dX ["_law_rows"] (spText K) := ok_text DX.fn T
  have GSp : FnOk P w K mg base CX0 2 fSp dSp ["_law_text_here", "_law_parts", "_law_script"] (spSpoilt K) := ok_spoilt DSp.fn T DC DSi DO
  have GLR : FnOk P w K mg base CX0 2 fRd dRd ["_law_text_here"] spLRead := ok_lread DRd.fn T DN
  have GA : FnOk P w K mg base CX0 5 fA dA ["_law_thing"] (spAsked K) := ok_asked DA.fn T R gR kpR bR GRd
  have GB : FnOk P w K mg base CX0 2 fB dB ["_law_found", "_law_due"] (spBank K) := ok_bank DB.fn T DW
  have GRf : FnOk P w K mg base CX0 2 fRf dRf ["_law_found", "_law_place"] spRfd := ok_rfd DRf.fn T DW
  have GSh : FnOk P w K mg base CX0 1 fSh dSh ["_law_script"] (spShares K) := ok_shares DSh.fn T
  have GSt : FnOk P w K mg base CX0 1 fSt dSt ["_law_shares_here"] (spShT K) := ok_sht DSt.fn T
  refine F.ok scLaw (fun vs H Q E h => ?_) (fun cdv A outer s H vs Q E hr h => ?_)
  · obtain ⟨_, _, rfl, _⟩ := h; rfl
  · obtain ⟨sc, ns, rfl, hSc, hns, k⟩ := h
    have r1 : Room 1 _ := hr.mono (by decide)
    have r2 : Room 2 _ := hr.mono (by decide)
    have r5 : Room 5 _ := hr
    obtain ⟨tT, dT', pT⟩ : ∃ t, PSs (cxOf CX0 P w K mg base nmL "law" (defScope sLaw) f cdv A outer s H E).nox ((defBody sLaw).drop 8) t ∧
        ∀ H2 pr xr pb xb rs z4 z5 z6, Same H H2 → H2 pr = some (.lst xr) → RowsAt H2 xr rs → H2 pb = some (.lst xb) → RowsAt H2 xb (Bk.tidy rs) → rs.length ≤ 24 → (∀ r ∈ rs, 0 ≤ r.2 ∧ r.2 < 10 ^ 58) →
          t { nx := fun _ H' => Q .non H', rt := Q } [some (.ref sc), some (.ref pr), some (.ref pb), some (.str (Tx.bankT rs)), z4, z5, z6, none, none, none, none, none, none] H2 := by
      refine ⟨_, pss_cons (ps_set (i := 7) scLaw.nd rfl (Or.inl rfl) (pe_call GA r5 rfl DA.gl DA.fn.kp DA.bd .nil pass0 (pa_cons (pv 3) pa_nil)))
        (pss_cons (ps_if (pt_not (pt_val (pe_call GB r2 rfl DB.gl DB.fn.kp DB.bd .nil pass0 (pa_cons (pv 7) (pa_cons (pv 2) pa_nil))))) pss_never pss_nil)
        (pss_cons (ps_set (i := 8) scLaw.nd rfl (Or.inl rfl) (pe_ix ix_list (pe_lst (pa_cons pe_int (pa_cons pe_non (pa_cons pe_bl (pa_cons (pe_lst (pa_cons pe_str pa_nil)) (pa_cons (pe_tup (pa_cons pe_str pa_nil)) pa_nil)))))) (pe_op op_mod (pe_call GC r1 rfl DC.gl DC.fn.kp DC.bd .nil pass0 (pa_cons (pv 0) (pa_cons pe_int pa_nil))) pe_int) (fun _ _ => rfl)))
        (pss_cons (ps_if (pt_not (pt_val (pe_call GRf r2 rfl DRf.gl DRf.fn.kp DRf.bd .nil pass0 (pa_cons (pe_call GA r5 rfl DA.gl DA.fn.kp DA.bd .nil pass0 (pa_cons (pv 8) pa_nil)) (pa_cons pe_int pa_nil))))) pss_never pss_nil)
        (pss_cons (ps_set (i := 9) scLaw.nd rfl (Or.inl rfl) (pe_callTy call_list_of rfl T.list PyProof.Rows.boot_list (pa_cons (pv 2) pa_nil)))
        (pss_cons (ps_set (i := 10) scLaw.nd rfl (Or.inl rfl) (pe_call GS r1 rfl glS kpS bS .nil pass0 (pa_cons (pv 9) pa_nil)))
        (pss_cons (ps_if (PW.pt (pw_or (pt_not (pt_val (pe_callB call_isi rfl T.isi PyProof.Rows.boot_isinstance (pa_cons (pv 10) (pa_cons (pe_bltn (v := .ty "str") rfl T.str PyProof.Rows.boot_str rfl) pa_nil)))))
            (pw_or (pt_cmpR op_ne (pv 10) (pe_call GX r1 rfl DX.gl DX.fn.kp DX.bd .nil pass0 (pa_cons (pv 2) pa_nil)) (nomark _)) (pw_or1 (pt_cmpR (op_neD hr.units) (pv 9) (pv 2) (nomark _)))))) pss_never pss_nil)
        (pss_cons (ps_if (PW.pt (pw_or (pt_not (pt_val (pe_call GB r2 rfl DB.gl DB.fn.kp DB.bd .nil pass0 (pa_cons (pe_call GA r5 rfl DA.gl DA.fn.kp DA.bd .nil pass0 (pa_cons (pv 10) pa_nil)) (pa_cons (pv 2) pa_nil))))) (pw_or1 (pt_cmpR (op_neD hr.units) (pv 7) (pv 2) (nomark _))))) pss_never pss_nil)
        (pss_cons (ps_set (i := 11) scLaw.nd rfl (Or.inl rfl) (pe_op op_cat (pe_call GSh r1 rfl DSh.gl DSh.fn.kp DSh.bd .nil pass0 (pa_cons (pv 0) pa_nil)) (pe_lst (pa_cons (pe_lst pa_nil) pa_nil))))
        (pss_cons (ps_comp (i := 12) (Nc := ["_law_share"]) (fv := [none]) ⟨rfl, by decide +kernel, rfl, by decide +kernel, trivial, by decide +kernel, rfl, trivial⟩ scLaw.nd rfl (Or.inl rfl) rfl (pi_list (pv 11))
            (fun _ _ _ _ _ => pg_name (i := 0) (show (["_law_share"] : List Str).Nodup by decide +kernel) rfl (Or.inl rfl)) (fun _ _ _ _ _ => pif_nil)
            (fun _ _ _ _ _ => pe_callTy (call_list_ofK (K := K) rfl) rfl T.list PyProof.Rows.boot_list (pa_cons (pv 0) pa_nil)))
        (pss_cons (ps_set (i := 10) scLaw.nd rfl (Or.inl rfl) (pe_call GSs r2 rfl glSs kpSs bSs .nil pass0 (pa_cons (pv 12) pa_nil)))
        (pss_one (ps_ret (pe_and (pe_callB call_isi rfl T.isi PyProof.Rows.boot_isinstance (pa_cons (pv 10) (pa_cons (pe_bltn (v := .ty "str") rfl T.str PyProof.Rows.boot_str rfl) pa_nil)))
          (pe_and (pe_cmpR op_eq (pv 10) (pe_call GSt r1 rfl DSt.gl DSt.fn.kp DSt.bd .nil pass0 (pa_cons (pv 11) pa_nil)) (nomark _)) (pe_one (pe_cmpR (op_eqD hr.units) (pv 12) (pv 11) (nomark _))))))))))))))))), fun H2 pr xr pb xb rs z4 z5 z6 s2 gr hRr gb hRb hl hb => ?_⟩
      have b60 : ∀ r ∈ rs, 0 ≤ r.2 ∧ r.2 < 10 ^ 60 := fun r hr => by
        have := hb r hr
        have e : (10 : Int) ^ 58 < 10 ^ 60 := by decide
        exact ⟨this.1, by omega⟩
      have good := Bk.tidy_good rs fun r hr => (hb r hr).1
      have tt : Bk.tidy (Bk.tidy rs) = Bk.tidy rs := Bk.tidy_alt good.1 good.2
      have tl : (Bk.tidy rs).length ≤ 24 := Nat.le_trans (Bk.tidy_length rs) hl
      have t60 : ∀ r ∈ Bk.tidy rs, 0 ≤ r.2 ∧ r.2 < 10 ^ 60 := fun r hr => by
        have h1 := good.2 r hr
        have h2 := tidy_le (B := 10 ^ 58) (by decide) rs.length rs rfl (fun r hr => ⟨(hb r hr).1, Int.le_of_lt (hb r hr).2⟩) r hr
        have h3 : (rs.length : Int) * 10 ^ 58 ≤ 24 * 10 ^ 58 := Int.mul_le_mul_of_nonneg_right (by omega) (by decide)
        have e : (24 : Int) * 10 ^ 58 < 10 ^ 60 := by decide
        exact ⟨Int.le_of_lt h1, by omega⟩
      have num : ∀ l : List Bk.Rw, (∀ r ∈ l, 0 ≤ r.2 ∧ r.2 < 10 ^ 60) → ∀ r ∈ l, Q8.Num r.2 := fun l h r hr => by
        have := h r hr
        have e : (10 : Int) ^ 60 < 10 ^ 90 := by decide
        exact ⟨this.1, by omega⟩
      have len : ∀ l : List Bk.Rw, l.length ≤ 24 → (∀ r ∈ l, 0 ≤ r.2 ∧ r.2 < 10 ^ 60) → (Tx.bankT l).length ≤ 50000 := fun l h1 h2 =>
        Nat.le_trans (Q8.join_len (B := 94) (n := 100) (fun y hy => by obtain ⟨r, hr, rfl⟩ := List.mem_map.mp hy; exact Q8.row_len (num l h2 r hr)) (by rw [List.length_map]; omega) (by decide +kernel)) (by decide)
      have e1 := Tx.rd_bank b60
      have e2 := Tx.rd_bank t60
      refine ⟨_, rfl, _, rfl, .inl ⟨_, rfl, len rs hl b60, fun _ pa ya H3 s3 _ ga hRa => ?_, fun z => ?_⟩⟩
      rotate_left
      · rw [e1] at z; cases z
      rw [e1] at hRa
      have hRa : RowsAt H3 ya (Bk.tidy rs) := hRa
      have gb3 := s3 _ _ gb
      have hRb3 : RowsAt H3 xb (Bk.tidy rs) := hRb.mono s3.tps
      refine ⟨_, rfl, _, rfl, pa, pb, ya, xb, Bk.tidy rs, rfl, ga, gb3, hRa, hRb3, true, rfl, iteF ?_⟩
      have s23 := s2.trans s3
      -- a thing that is no text
      refine ⟨by show 1 ≤ sizeLine; decide, fun pl hpl => ⟨by show 1 ≤ sizeLine; decide, fun pt hpt => ⟨by show 5 ≤ sizeLine; decide, fun p5 hp5 => ?_⟩⟩⟩
      have t4 := same_new (o := .lst [V.str "dry 1"]) hpl
      have g4 : upd H3 pl (.lst [V.str "dry 1"]) pl = some (.lst [V.str "dry 1"]) := upd_same
      generalize upd H3 pl (.lst [V.str "dry 1"]) = H4 at t4 g4 hpt hp5 ⊢
      have t5 := same_new (o := .tup [V.str "wet 1"]) hpt
      have g5 : upd H4 pt (.tup [V.str "wet 1"]) pt = some (.tup [V.str "wet 1"]) := upd_same
      generalize upd H4 pt (.tup [V.str "wet 1"]) = H5 at t5 g5 hp5 ⊢
      have t6 := same_new (o := .lst [V.int 5, .non, .bl true, .ref pl, .ref pt]) hp5
      have g6 : upd H5 p5 (.lst [V.int 5, .non, .bl true, .ref pl, .ref pt]) p5 = some (.lst [V.int 5, .non, .bl true, .ref pl, .ref pt]) := upd_same
      generalize upd H5 p5 (.lst [V.int 5, .non, .bl true, .ref pl, .ref pt]) = H6 at t6 g6 ⊢
      have s36 := (t4.trans t5).trans t6
      obtain ⟨v, hv, hat⟩ := five (i := cellN ns 1 % 5) (Int.emod_nonneg _ (by decide)) (Int.emod_lt_of_pos _ (by decide)) (V.int 5) .non (.bl true) (.ref pl) (.ref pt)
      refine ⟨_, rfl, sc, ns, 1, rfl, (s23.trans s36).seq hSc, by decide, _, _, rfl, rfl, (by decide : (0 : Int) < 5), p5, _, _, v, rfl, rfl, SqL.of g6, hat, ?_⟩
      have nonS : Q8.NonS H6 v := by
        rcases hv with e | e | e | e | e
        · exact .inl ⟨_, e⟩
        · exact .inr (.inl e)
        · exact .inr (.inr (.inl ⟨_, e⟩))
        · exact .inr (.inr (.inr (.inl ⟨_, _, e, (t5.trans t6) _ _ g4⟩)))
        · exact .inr (.inr (.inr (.inr ⟨_, _, e, t6 _ _ g5⟩)))
      refine ⟨_, rfl, v, rfl, .inr ⟨nonS, fun pz H7 s7 gz => ?_⟩⟩
      refine ⟨pz, 0, rfl, gz, true, rfl, iteF ?_⟩
      have s37 := s36.trans s7
      have ga7 := s37 _ _ ga
      have gb7 := s37 _ _ gb3
      have hRa7 : RowsAt H7 ya (Bk.tidy rs) := hRa.mono s37.tps
      have hRb7 : RowsAt H7 xb (Bk.tidy rs) := hRb3.mono s37.tps
      have s27 := s23.trans s37
      clear hat nonS hv g6 g5 g4 gz s36 t4 t5 t6 hpl hpt hp5
      -- written
      refine ⟨_, rfl, pb, xb, rfl, .inl (SqL.of gb7), fun ph hph => ?_⟩
      have t8 := same_new (o := .lst xb) hph
      have g8 : upd H7 ph (.lst xb) ph = some (.lst xb) := upd_same
      generalize upd H7 ph (.lst xb) = H8 at t8 g8 ⊢
      have hRb8 : RowsAt H8 xb (Bk.tidy rs) := hRb7.mono t8.tps
      refine ⟨_, rfl, ph, xb, Bk.tidy rs, rfl, SqL.of g8, hRb8, by omega, num _ t60, fun H9 s9 => ?_⟩
      refine ⟨_, rfl, _, _, _, rfl, .of (.str _), .inl ⟨rfl, true, kit_str_str, true, rfl, iteF ?_⟩⟩
      have s79 := t8.trans s9
      refine ⟨_, rfl, _, rfl, pb, xb, Bk.tidy rs, rfl, SqL.of (s79 _ _ gb7), hRb8.mono s9.tps, by omega, num _ t60, fun H10 s10 => ⟨rfl, false, by rw [decide_eq_true rfl]; rfl, iteF ?_⟩⟩
      have s710 := s79.trans s10
      have gb10 := s710 _ _ gb7
      have hRb10 : RowsAt H10 xb (Bk.tidy rs) := hRb7.mono s710.tps
      refine ⟨_, rfl, _, rfl, rowsD (Bk.tidy rs), rowsD (Bk.tidy rs), rows_dat (SqL.of ((s9.trans s10) _ _ g8)) hRb10, rows_dat (SqL.of gb10) hRb10, rowsD_can _, rowsD_can _, rowsD_depth _, false, by rw [if_pos rfl, eqv_rows, decide_eq_true rfl]; rfl, iteF ?_⟩
      -- read again
      refine ⟨_, rfl, _, rfl, .inl ⟨_, rfl, len _ tl t60, fun _ pq yq H11 s11 _ gq hRq => ?_, fun z => ?_⟩⟩
      rotate_left
      · rw [e2] at z; cases z
      rw [e2] at hRq
      have hRq : RowsAt H11 yq (Bk.tidy (Bk.tidy rs)) := hRq
      rw [tt] at hRq
      have gb11 := s11 _ _ gb10
      have hRb11 : RowsAt H11 xb (Bk.tidy rs) := hRb10.mono s11.tps
      refine ⟨_, rfl, pq, pb, yq, xb, Bk.tidy rs, rfl, gq, gb11, hRq, hRb11, true, rfl, iteF ?_⟩
      have s711 := s710.trans s11
      refine ⟨_, rfl, _, rfl, rowsD (Bk.tidy rs), rowsD (Bk.tidy rs), rows_dat (SqL.of (s711 _ _ ga7)) (hRa7.mono s711.tps), rows_dat (SqL.of gb11) hRb11, rowsD_can _, rowsD_can _, rowsD_depth _, false, by rw [if_pos rfl, eqv_rows, decide_eq_true rfl]; rfl, iteF ?_⟩
      -- shares
      refine ⟨_, rfl, sc, ns, rfl, (s27.trans s711).seq hSc, fun p as S H12 s12 _ hSs hl6 hG => ?_⟩
      refine ⟨Nat.zero_le _, fun pe hpe => ⟨by show 1 ≤ sizeLine; decide, fun p1 hp1 => ?_⟩⟩
      have t13 := same_new (o := .lst []) hpe
      have g13 : upd H12 pe (.lst []) pe = some (.lst []) := upd_same
      generalize upd H12 pe (.lst []) = H13 at t13 g13 hp1 ⊢
      have t14 := same_new (o := .lst [V.ref pe]) hp1
      have g14 : upd H13 p1 (.lst [V.ref pe]) p1 = some (.lst [V.ref pe]) := upd_same
      generalize upd H13 p1 (.lst [V.ref pe]) = H14 at t14 g14 ⊢
      have las := Paired.length hSs.2
      have hSs14 := (hSs.mono t13).mono t14
      refine ⟨p, p1, _, _, rfl, rfl, hSs14.1, g14, Nat.le_trans (m := 100) (by simp; omega) (by decide), fun pc hpc => ?_⟩
      have t15 := same_new (o := .lst (as.map V.ref ++ [V.ref pe])) hpc
      have hc : SsAt (upd H14 pc (.lst (as.map V.ref ++ [V.ref pe]))) pc (as ++ [pe]) (S ++ [[]]) :=
        ⟨by rw [upd_same, List.map_append]; rfl, paired_append (hSs14.2.mono t15) (.cons ⟨[], (t14.trans t15) _ _ g13, .nil⟩ .nil)⟩
      generalize upd H14 pc (.lst (as.map V.ref ++ [V.ref pe])) = H15 at t15 hc ⊢
      have hG' : GoodS (S ++ [[]]) := fun ps hps => by
        rcases List.mem_append.mp hps with y | y
        · exact hG ps y
        · rw [List.mem_singleton.mp y]; exact ⟨by simp, by simp⟩
      have hl7 : (S ++ [[]]).length ≤ 7 := by simp; omega
      generalize S ++ [[]] = S1 at hc hG' hl7
      generalize as ++ [pe] = as1 at hc
      have las1 := Paired.length hc.2
      refine ⟨_, rfl, pc, rfl, ⟨_, SqL.of hc.1⟩, fun pn hpn => ?_⟩
      refine comp_list (K := K) (a := pc) (xs := as1.map V.ref) (fun i ys H' => Same H15 H' ∧ H' pn = some (.lst ys) ∧ ∃ bs : List Addr, ys = bs.map V.ref ∧ ShsAt H' bs (S1.take i) ∧ ∀ b ∈ bs, b ≠ pn) ⟨same_new hpn, upd_same, [], rfl, .nil, by simp⟩ (fun i ys H' h => ⟨h.1.seq (SqL.of hc.1), h.2.1⟩) ?_ ?_
      · rintro i x ys H' hi hx ⟨sm, hy, bs, rfl, hbs, nb⟩
        have lbs := Paired.length hbs
        rw [List.getElem?_map] at hx
        obtain ⟨a1, ha1, rfl⟩ := Option.map_eq_some_iff.mp hx
        obtain ⟨z, hz, hz2⟩ := paired_get hc.2 ha1
        obtain ⟨xs, hxs, hP⟩ := hz2.mono sm
        refine ⟨(Wk.refl _).set rfl, yes ⟨_, rfl, a1, xs, rfl, .inl (SqL.of hxs), fun l hl => ?_⟩⟩
        have t16 := same_new (o := .lst xs) hl
        have hy16 := t16 _ _ hy
        have nl : l ≠ pn := fun e => by rw [e, hy] at hl; cases hl
        refine ⟨hy16, ?_, nx hi ⟨(sm.trans t16).write hpn, upd_same, bs ++ [l], by simp, ?_, fun b hb => ?_⟩⟩
        · refine Nat.lt_of_le_of_lt (m := 1000) ?_ (by decide)
          rw [List.length_map, lbs, List.length_take]; omega
        · rw [take_snoc hz]
          exact paired_append (ShsAt.write hy16 (hbs.mono t16) nb) (.cons (ShAt.write ⟨xs, upd_same, hP.mono t16.tps⟩ nl hy16) .nil)
        · rcases List.mem_append.mp hb with y | y
          · exact nb b y
          · rw [List.mem_singleton.mp y]; exact nl
      rintro ys H16 ⟨s16, hy, bs, rfl, hbs, nb⟩
      rw [List.length_map, las1, List.take_length] at hbs
      refine ⟨_, rfl, pn, bs, S1, rfl, ⟨hy, hbs⟩, by omega, hG', fun H17 s17 => ?_⟩
      refine ⟨_, rfl, _, _, _, rfl, .of (.str _), .inl ⟨rfl, true, kit_str_str, true, rfl, iteT ?_⟩⟩
      have s1617 := s16.trans s17
      refine ⟨_, rfl, _, rfl, pc, _, S1, rfl, hc.mono s1617, by omega, hG', fun H18 s18 => ⟨rfl, _, rfl, ?_⟩⟩
      rw [decide_eq_true rfl]
      refine iteT ?_
      refine ⟨_, rfl, _, rfl, ssD S1, ssD S1, ss_dat (SsAt.mono ⟨hy, hbs⟩ (s17.trans s18)), ss_dat (hc.mono (s1617.trans s18)), ssD_can _, ssD_can _, ssD_depth _, ?_⟩
      show Q (.bl (PyData.eqv (ssD S1) (ssD S1))) H18
      rw [eqv_ss, decide_eq_true rfl]
      exact k _
    refine ⟨_, pss_cons (ps_comp (i := 1) (Nc := ["_law_cell"]) (fv := [none]) ⟨rfl, by decide +kernel, rfl, by decide +kernel, trivial, by decide +kernel, rfl, trivial⟩ scLaw.nd rfl (Or.inl rfl) rfl (pi_list (pe_slice sl_list (pv 0) (po_some pe_int) (po_some pe_int)))
          (fun _ _ _ _ _ => pg_name (i := 0) (show (["_law_cell"] : List Str).Nodup by decide +kernel) rfl (Or.inl rfl)) (fun _ _ _ _ _ => pif_nil)
          (fun _ _ _ _ _ => pe_call GRo r1 rfl DR.gl DR.fn.kp DR.bd .nil pass0 (pa_cons (pv 0) pa_nil)))
      (pss_cons (ps_set (i := 2) scLaw.nd rfl (Or.inl rfl) (pe_call GT r1 rfl DT.gl DT.fn.kp DT.bd .nil pass0 (pa_cons (pv 1) pa_nil)))
      (pss_cons (ps_set (i := 3) scLaw.nd rfl (Or.inl rfl) (pe_call GX r1 rfl DX.gl DX.fn.kp DX.bd .nil pass0 (pa_cons (pv 1) pa_nil)))
      (pss_cons (ps_set (i := 4) scLaw.nd rfl (Or.inl rfl) (pe_call GSp r2 rfl DSp.gl DSp.fn.kp DSp.bd .nil pass0 (pa_cons (pv 3) (pa_cons (pe_comp (Nc := ["_law_row_here"]) (fv := [none]) ⟨rfl, by decide +kernel, rfl, by decide +kernel, trivial, by decide +kernel, rfl, trivial⟩ rfl (pi_list (pv 1))
          (fun _ _ _ _ _ => pg_name (i := 0) (show (["_law_row_here"] : List Str).Nodup by decide +kernel) rfl (Or.inl rfl)) (fun _ _ _ _ _ => pif_nil)
          (fun _ _ _ _ _ => pe_call GX r1 rfl DX.gl DX.fn.kp DX.bd .nil pass0 (pa_cons (pe_lst (pa_cons (pv 0) pa_nil)) pa_nil))) (pa_cons (pv 0) pa_nil)))))
      (pss_cons (ps_set (i := 5) scLaw.nd rfl (Or.inl rfl) (pe_call GLR r2 rfl DRd.gl DRd.fn.kp DRd.bd .nil pass0 (pa_cons (pv 4) pa_nil)))
      (pss_cons (ps_set (i := 6) scLaw.nd rfl (Or.inl rfl) (pe_call GA r5 rfl DA.gl DA.fn.kp DA.bd .nil pass0 (pa_cons (pv 4) pa_nil)))
      (pss_cons (ps_if (PW.pt (pw_and (pt_val (pe_callB call_isi rfl T.isi PyProof.Rows.boot_isinstance (pa_cons (pv 5) (pa_cons (pe_bltn (v := .ty "list") rfl T.list PyProof.Rows.boot_list rfl) pa_nil))))
          (pw_and1 (pt_not (pt_val (pe_call GB r2 rfl DB.gl DB.fn.kp DB.bd .nil pass0 (pa_cons (pv 6) (pa_cons (pe_call GT r1 rfl DT.gl DT.fn.kp DT.bd .nil pass0 (pa_cons (pv 5) pa_nil)) pa_nil)))))))) pss_never pss_nil)
      (pss_cons (ps_if (PW.pt (pw_and (pt_not (pt_val (pe_callB call_isi rfl T.isi PyProof.Rows.boot_isinstance (pa_cons (pv 5) (pa_cons (pe_bltn (v := .ty "list") rfl T.list PyProof.Rows.boot_list rfl) pa_nil)))))
          (pw_and1 (pt_not (pt_val (pe_call GRf r2 rfl DRf.gl DRf.fn.kp DRf.bd .nil pass0 (pa_cons (pv 6) (pa_cons (pv 5) pa_nil)))))))) pss_never pss_nil) dT'))))))), ?_⟩
    obtain ⟨cs, hcs⟩ := cut_ints ns (some 4) (some 28)
    have lcs : cs.length ≤ 24 := by
      have h1 : (cutV (ns.map V.int) (some 4) (some 28)).length ≤ 24 := by
        unfold cutV
        rw [List.length_take]
        have : HT.sIx (ns.map V.int).length (ns.map V.int).length (some 28) - HT.sIx (ns.map V.int).length 0 (some 4) ≤ 24 := by
          unfold HT.sIx
          simp
          omega
        omega
      rw [hcs, List.length_map] at h1
      exact h1
    refine ⟨_, rfl, _, rfl, _, rfl, sc, _, rfl, hSc, fun pS hpS => ?_⟩
    rw [hcs]
    have s0 := same_new (o := .lst (cs.map V.int)) hpS
    have g0 : upd H pS (.lst (cs.map V.int)) pS = some (.lst (cs.map V.int)) := upd_same
    generalize upd H pS (.lst (cs.map V.int)) = H0 at s0 g0 ⊢
    refine ⟨pS, rfl, ⟨_, SqL.of g0⟩, fun pr hpr => ?_⟩
    refine comp_list (K := K) (a := pS) (xs := cs.map V.int) (fun i ys H2 => Same H0 H2 ∧ H2 pr = some (.lst ys) ∧ ∃ rs : List Bk.Rw, RowsAt H2 ys rs ∧ rs.length = i ∧ ∀ r ∈ rs, 0 ≤ r.2 ∧ r.2 < 10 ^ 58) ⟨same_new hpr, upd_same, [], .nil, rfl, by simp⟩ (fun i ys H2 h => ⟨h.1.seq (SqL.of g0), h.2.1⟩) ?_ ?_
    · rintro i x ys H2 hi hx ⟨sm, hy, rs, hR, lr, hb⟩
      have ly := Paired.length hR
      rw [List.getElem?_map] at hx
      obtain ⟨c, hc, rfl⟩ := Option.map_eq_some_iff.mp hx
      have hi' := hi
      rw [List.length_map] at hi'
      refine ⟨(Wk.refl _).set rfl, yes ⟨_, rfl, c, rfl, fun q r H3 s3 _ gq h0 h1 => ?_⟩⟩
      have hy3 := s3 _ _ hy
      refine ⟨hy3, Nat.lt_of_le_of_lt (m := 100) (by omega) (by decide), nx hi ⟨(sm.trans s3).write hpr, upd_same, rs ++ [r], ((hR.mono s3.tps).mono (tps_lst hy3)).snoc ⟨q, rfl, tps_lst hy3 _ _ gq⟩, by simp [lr], fun x hx => ?_⟩⟩
      rcases List.mem_append.mp hx with y | y
      · exact hb x y
      · rw [List.mem_singleton.mp y]; exact ⟨h0, h1⟩
    rintro xr H1 ⟨s1, gr, rs, hR, lr, hb⟩
    rw [List.length_map] at lr
    have hl : rs.length ≤ 24 := by omega
    have h0 : ∀ r ∈ rs, 0 ≤ r.2 := fun r hr => (hb r hr).1
    have num : ∀ r ∈ rs, Q8.Num r.2 := fun r hr => by
      have := hb r hr
      have e : (10 : Int) ^ 58 < 10 ^ 90 := by decide
      exact ⟨this.1, by omega⟩
    refine ⟨_, rfl, pr, xr, rs, rfl, SqL.of gr, hR, h0, by omega, fun pb xb H3 s3 _ gb hRb => ?_⟩
    refine ⟨_, rfl, pr, xr, rs, rfl, SqL.of (s3 _ _ gr), hR.mono s3.tps, by omega, num, fun H4 s4 => ?_⟩
    have s14 := s3.trans s4
    have gr4 := s14 _ _ gr
    have hR4 : RowsAt H4 xr rs := hR.mono s14.tps
    have lx := Paired.length hR
    refine ⟨_, rfl, _, rfl, pr, rfl, ⟨_, SqL.of gr4⟩, fun pp hpp => ?_⟩
    refine comp_list (K := K) (a := pr) (xs := xr) (fun i ys H' => Same H4 H' ∧ H' pp = some (.lst ys) ∧ ys = ((rs.take i).map Tx.rowT).map V.str) ⟨same_new hpp, upd_same, rfl⟩ (fun i ys H' h => ⟨h.1.seq (SqL.of gr4), h.2.1⟩) ?_ ?_
    · rintro i x ys H' hi hx ⟨sm, hy, rfl⟩
      obtain ⟨r, hr1, hr2⟩ := hR4.get hx
      have hr3 := hr2.mono sm.tps
      refine ⟨(Wk.refl _).set rfl, yes ⟨_, rfl, by show 1 ≤ sizeLine; decide, fun pl hpl => ?_⟩⟩
      have t5 := same_new (o := .lst [x]) hpl
      refine ⟨pl, [x], [r], rfl, SqL.of upd_same, .cons (hr3.mono t5.tps) .nil, by simp, fun q hq => by rw [List.mem_singleton.mp hq]; exact num r (List.mem_of_getElem? hr1), fun H7 s7 => ?_⟩
      refine ⟨(t5.trans s7) _ _ hy, ?_, nx hi ⟨(sm.trans (t5.trans s7)).write hpp, upd_same, ?_⟩⟩
      · refine Nat.lt_of_le_of_lt (m := 1000) ?_ (by decide)
        simp only [List.length_map, List.length_take]; omega
      · rw [take_snoc hr1, bankT_one]; simp
    rintro ys H5 ⟨s5, gp, rfl⟩
    rw [lx, List.take_length] at gp
    have tlen : (Tx.bankT rs).length ≤ 10000 := Nat.le_trans (Q8.join_len (B := 94) (n := 100) (fun y hy => by obtain ⟨r, hr, rfl⟩ := List.mem_map.mp hy; exact Q8.row_len (num r hr)) (by rw [List.length_map]; omega) (by decide +kernel)) (by decide)
    have s05 := ((s0.trans s1).trans s14).trans s5
    refine ⟨_, rfl, _, pp, sc, rs.map Tx.rowT, ns, rfl, tlen, gp, by rw [List.length_map]; omega, fun y hy => by obtain ⟨r, hr, rfl⟩ := List.mem_map.mp hy; exact Q8.row_len (num r hr), s05.seq hSc, fun y H6 s6 hy => ?_⟩
    have s46 := s5.trans s6
    have fin : ∀ H7 z4 z5 z6, Same H6 H7 → tT { nx := fun _ H' => Q .non H', rt := Q } [some (.ref sc), some (.ref pr), some (.ref pb), some (.str (Tx.bankT rs)), z4, z5, z6, none, none, none, none, none, none] H7 := fun H7 z4 z5 z6 s7 =>
      pT H7 pr xr pb xb rs z4 z5 z6 ((s05.trans s6).trans s7) ((s46.trans s7) _ _ gr4) (hR4.mono (s46.trans s7).tps) (((s4.trans s46).trans s7) _ _ gb) (hRb.mono ((s4.trans s46).trans s7).tps) hl hb
    have nn := rdText_nn hy
    refine ⟨_, rfl, y, rfl, hy, fun ok pd yd H8 s8 _ gd hRd => ?_, fun bad H8 s8 => ?_⟩
    · refine ⟨_, rfl, _, rfl, .inl ⟨y, rfl, hy, fun _ pf yf H9 s9 _ gf hRf => ?_, fun z => by rw [ok] at z; cases z⟩⟩
      have gd9 := s9 _ _ gd
      have hRd9 : RowsAt H9 yd (Tx.rdText y).1 := hRd.mono s9.tps
      refine ⟨_, rfl, _, _, _, rfl, .of (.lst gd9), .inl ⟨rfl, true, kit_list_list, true, rfl, iteT ?_⟩⟩
      refine ⟨_, rfl, _, rfl, pd, yd, _, rfl, SqL.of gd9, hRd9, nn.1, nn.2, fun pt yt H10 s10 _ gt hRt => ?_⟩
      refine ⟨pf, pt, yf, yt, _, rfl, s10 _ _ gf, gt, hRf.mono s10.tps, hRt, true, rfl, iteF ?_⟩
      refine ⟨_, rfl, _, _, _, rfl, .of (.lst (s10 _ _ gd9)), .inl ⟨rfl, true, kit_list_list, true, rfl, iteF (iteF ?_)⟩⟩
      exact fin _ _ _ _ ((s8.trans s9).trans s10)
    · refine ⟨_, rfl, _, rfl, .inl ⟨y, rfl, hy, fun z => (by rw [bad] at z; cases z), fun _ pf H9 s9 gf => ?_⟩⟩
      refine ⟨_, rfl, _, _, _, rfl, .of (.int _), .inl ⟨rfl, false, kit_int_list, false, rfl, iteF (iteF ?_)⟩⟩
      refine ⟨_, rfl, _, _, _, rfl, .of (.int _), .inl ⟨rfl, false, kit_int_list, false, rfl, iteT ?_⟩⟩
      refine ⟨_, rfl, _, rfl, pf, _, rfl, gf, true, rfl, iteF ?_⟩
      exact fin _ _ _ _ (s8.trans s9)
end
end K8

set_option Elab.async false
set_option linter.all false
set_option maxRecDepth 100000
set_option maxHeartbeats 4000000
namespace K8
open PySem L2
theorem all_mk {l : PySem.W.OpenLaw} {w : World} {K : PySem.W.Frag} {h : Heap} {mg : Str → Option Value} {fa f0 f1 f2 f3 f4 f5 f6 f7 f8 f9 f10 f11 f12 f13 f14 f15 f16 f17 f18 f19 f20 f21 f22 f23 f24 f25 aB aX iX NX e1 e2 e3 e4 e5 e6 : Addr} (X : K.In h) (G : h.Ns mainGlobals mg) (hfa : mg "law" = some (.ref fa))
    {od0 an0 od1 an1 od2 an2 od3 an3 od4 an4 od5 an5 od6 an6 od7 an7 od8 an8 od9 an9 od10 an10 od11 an11 od12 an12 od13 an13 od14 an14 od15 an15 od16 an16 od17 an17 od18 an18 od19 an19 od20 an20 od21 an21 od22 an22 od23 an23 od24 an24 od25 an25 : Option Addr} {sl0 sl1 sl2 sl3 sl4 sl5 sl6 sl7 sl8 sl9 sl10 sl11 sl12 sl13 sl14 sl15 sl16 sl17 sl18 sl19 sl20 sl21 sl22 sl23 sl24 sl25 : Array (Option Value)} {oc0 kV0 dc0 pm0 cd0 ct0 oc1 kV1 dc1 pm1 cd1 ct1 oc2 kV2 dc2 pm2 cd2 ct2 oc3 kV3 dc3 pm3 cd3 ct3 oc4 kV4 dc4 pm4 cd4 ct4 oc5 kV5 dc5 pm5 cd5 ct5 oc6 kV6 dc6 pm6 cd6 ct6 oc7 kV7 dc7 pm7 cd7 ct7 oc8 kV8 dc8 pm8 cd8 ct8 oc9 kV9 dc9 pm9 cd9 ct9 oc10 kV10 dc10 pm10 cd10 ct10 oc11 kV11 dc11 pm11 cd11 ct11 oc12 kV12 dc12 pm12 cd12 ct12 oc13 kV13 dc13 pm13 cd13 ct13 oc14 kV14 dc14 pm14 cd14 ct14 oc15 kV15 dc15 pm15 cd15 ct15 oc16 kV16 dc16 pm16 cd16 ct16 oc17 kV17 dc17 pm17 cd17 ct17 oc18 kV18 dc18 pm18 cd18 ct18 oc19 kV19 dc19 pm19 cd19 ct19 oc20 kV20 dc20 pm20 cd20 ct20 oc21 kV21 dc21 pm21 cd21 ct21 oc22 kV22 dc22 pm22 cd22 ct22 oc23 kV23 dc23 pm23 cd23 ct23 oc24 kV24 dc24 pm24 cd24 ct24 oc25 kV25 dc25 pm25 cd25 ct25 : Value} {td tw  : Tok} {cB : ClassData} {tk1 tk2 tk3 : Tok} {cX : ClassData} {nmX qX : Str} {bsX subX : List Value} {snX : List Str} {abX : Bool} {colX : Option Bool} {ddX fodX fanX : Option Addr} {kaX kbX kcX kdX keX : Option Value} {focX fkvX fdcX fpmX fcdX fctX : Value} {fslX : Array (Option Value)}
    (ha0 : PySem.W.nsIn K mainGlobals "is_ground" = some (some (.ref f0)))
    (hl0 : K.lookup f0 = some ⟨oc0, od0, .func (PySem.W.fnOf "is_ground" "is_ground" (defArgs Q8.sGround) (defBody Q8.sGround) (defScope Q8.sGround) .none kV0 dc0 pm0 an0 cd0 ct0), sl0⟩)
    (hc0 : PySem.W.codeIn K cd0 "is_ground" = true)
    (hk0 : PySem.W.keepIn K (.ref f0) = true)
    (ha1 : PySem.W.nsIn K mainGlobals "is_whole" = some (some (.ref f1)))
    (hl1 : K.lookup f1 = some ⟨oc1, od1, .func (PySem.W.fnOf "is_whole" "is_whole" (defArgs Q8.sWhole) (defBody Q8.sWhole) (defScope Q8.sWhole) .none kV1 dc1 pm1 an1 cd1 ct1), sl1⟩)
    (hc1 : PySem.W.codeIn K cd1 "is_whole" = true)
    (hk1 : PySem.W.keepIn K (.ref f1) = true)
    (ha2 : PySem.W.nsIn K mainGlobals "refuse_wrong_row" = some (some (.ref f2)))
    (hl2 : K.lookup f2 = some ⟨oc2, od2, .func (PySem.W.fnOf "refuse_wrong_row" "refuse_wrong_row" (defArgs Q8.sRefuse) (defBody Q8.sRefuse) (defScope Q8.sRefuse) .none kV2 dc2 pm2 an2 cd2 ct2), sl2⟩)
    (hc2 : PySem.W.codeIn K cd2 "refuse_wrong_row" = true)
    (hk2 : PySem.W.keepIn K (.ref f2) = true)
    (ha3 : PySem.W.nsIn K mainGlobals "tidy" = some (some (.ref f3)))
    (hl3 : K.lookup f3 = some ⟨oc3, od3, .func (PySem.W.fnOf "tidy" "tidy" (defArgs Q8.sTidy) (defBody Q8.sTidy) (defScope Q8.sTidy) .none kV3 dc3 pm3 an3 cd3 ct3), sl3⟩)
    (hc3 : PySem.W.codeIn K cd3 "tidy" = true)
    (hk3 : PySem.W.keepIn K (.ref f3) = true)
    (ha4 : PySem.W.nsIn K mainGlobals "is_long" = some (some (.ref f4)))
    (hl4 : K.lookup f4 = some ⟨oc4, od4, .func (PySem.W.fnOf "is_long" "is_long" (defArgs Q8.sLongF) (defBody Q8.sLongF) (defScope Q8.sLongF) .none kV4 dc4 pm4 an4 cd4 ct4), sl4⟩)
    (hc4 : PySem.W.codeIn K cd4 "is_long" = true)
    (hk4 : PySem.W.keepIn K (.ref f4) = true)
    (ha5 : PySem.W.nsIn K mainGlobals "read_part" = some (some (.ref f5)))
    (hl5 : K.lookup f5 = some ⟨oc5, od5, .func (PySem.W.fnOf "read_part" "read_part" (defArgs Q8.sRP) (defBody Q8.sRP) (defScope Q8.sRP) .none kV5 dc5 pm5 an5 cd5 ct5), sl5⟩)
    (hc5 : PySem.W.codeIn K cd5 "read_part" = true)
    (hk5 : PySem.W.keepIn K (.ref f5) = true)
    (ha6 : PySem.W.nsIn K mainGlobals "read" = some (some (.ref f6)))
    (hl6 : K.lookup f6 = some ⟨oc6, od6, .func (PySem.W.fnOf "read" "read" (defArgs Q8.sRead) (defBody Q8.sRead) (defScope Q8.sRead) .none kV6 dc6 pm6 an6 cd6 ct6), sl6⟩)
    (hc6 : PySem.W.codeIn K cd6 "read" = true)
    (hk6 : PySem.W.keepIn K (.ref f6) = true)
    (ha7 : PySem.W.nsIn K mainGlobals "shown" = some (some (.ref f7)))
    (hl7 : K.lookup f7 = some ⟨oc7, od7, .func (PySem.W.fnOf "shown" "shown" (defArgs Q8.sShown) (defBody Q8.sShown) (defScope Q8.sShown) .none kV7 dc7 pm7 an7 cd7 ct7), sl7⟩)
    (hc7 : PySem.W.codeIn K cd7 "shown" = true)
    (hk7 : PySem.W.keepIn K (.ref f7) = true)
    (ha8 : PySem.W.nsIn K mainGlobals "shown_share" = some (some (.ref f8)))
    (hl8 : K.lookup f8 = some ⟨oc8, od8, .func (PySem.W.fnOf "shown_share" "shown_share" (defArgs Q8.sShSh) (defBody Q8.sShSh) (defScope Q8.sShSh) .none kV8 dc8 pm8 an8 cd8 ct8), sl8⟩)
    (hc8 : PySem.W.codeIn K cd8 "shown_share" = true)
    (hk8 : PySem.W.keepIn K (.ref f8) = true)
    (ha9 : PySem.W.nsIn K mainGlobals "shown_shares" = some (some (.ref f9)))
    (hl9 : K.lookup f9 = some ⟨oc9, od9, .func (PySem.W.fnOf "shown_shares" "shown_shares" (defArgs Q8.sShSs) (defBody Q8.sShSs) (defScope Q8.sShSs) .none kV9 dc9 pm9 an9 cd9 ct9), sl9⟩)
    (hc9 : PySem.W.codeIn K cd9 "shown_shares" = true)
    (hk9 : PySem.W.keepIn K (.ref f9) = true)
    (ha10 : PySem.W.nsIn K mainGlobals "_law_cell_at" = some (some (.ref f10)))
    (hl10 : K.lookup f10 = some ⟨oc10, od10, .func (PySem.W.fnOf "_law_cell_at" "_law_cell_at" (defArgs sCell) (defBody sCell) (defScope sCell) .none kV10 dc10 pm10 an10 cd10 ct10), sl10⟩)
    (hc10 : PySem.W.codeIn K cd10 "_law_cell_at" = true)
    (hk10 : PySem.W.keepIn K (.ref f10) = true)
    (ha11 : PySem.W.nsIn K mainGlobals "_law_whole" = some (some (.ref f11)))
    (hl11 : K.lookup f11 = some ⟨oc11, od11, .func (PySem.W.fnOf "_law_whole" "_law_whole" (defArgs sLWh) (defBody sLWh) (defScope sLWh) .none kV11 dc11 pm11 an11 cd11 ct11), sl11⟩)
    (hc11 : PySem.W.codeIn K cd11 "_law_whole" = true)
    (hk11 : PySem.W.keepIn K (.ref f11) = true)
    (ha12 : PySem.W.nsIn K mainGlobals "_law_row" = some (some (.ref f12)))
    (hl12 : K.lookup f12 = some ⟨oc12, od12, .func (PySem.W.fnOf "_law_row" "_law_row" (defArgs sRow) (defBody sRow) (defScope sRow) .none kV12 dc12 pm12 an12 cd12 ct12), sl12⟩)
    (hc12 : PySem.W.codeIn K cd12 "_law_row" = true)
    (hk12 : PySem.W.keepIn K (.ref f12) = true)
    (ha13 : PySem.W.nsIn K mainGlobals "_law_tidy" = some (some (.ref f13)))
    (hl13 : K.lookup f13 = some ⟨oc13, od13, .func (PySem.W.fnOf "_law_tidy" "_law_tidy" (defArgs sLTidy) (defBody sLTidy) (defScope sLTidy) .none kV13 dc13 pm13 an13 cd13 ct13), sl13⟩)
    (hc13 : PySem.W.codeIn K cd13 "_law_tidy" = true)
    (hk13 : PySem.W.keepIn K (.ref f13) = true)
    (ha14 : PySem.W.nsIn K mainGlobals "_law_text" = some (some (.ref f14)))
    (hl14 : K.lookup f14 = some ⟨oc14, od14, .func (PySem.W.fnOf "_law_text" "_law_text" (defArgs sText) (defBody sText) (defScope sText) .none kV14 dc14 pm14 an14 cd14 ct14), sl14⟩)
    (hc14 : PySem.W.codeIn K cd14 "_law_text" = true)
    (hk14 : PySem.W.keepIn K (.ref f14) = true)
    (ha15 : PySem.W.nsIn K mainGlobals "_law_sign" = some (some (.ref f15)))
    (hl15 : K.lookup f15 = some ⟨oc15, od15, .func (PySem.W.fnOf "_law_sign" "_law_sign" (defArgs sSign) (defBody sSign) (defScope sSign) .none kV15 dc15 pm15 an15 cd15 ct15), sl15⟩)
    (hc15 : PySem.W.codeIn K cd15 "_law_sign" = true)
    (hk15 : PySem.W.keepIn K (.ref f15) = true)
    (ha16 : PySem.W.nsIn K mainGlobals "_law_odd_part" = some (some (.ref f16)))
    (hl16 : K.lookup f16 = some ⟨oc16, od16, .func (PySem.W.fnOf "_law_odd_part" "_law_odd_part" (defArgs sOddP) (defBody sOddP) (defScope sOddP) .none kV16 dc16 pm16 an16 cd16 ct16), sl16⟩)
    (hc16 : PySem.W.codeIn K cd16 "_law_odd_part" = true)
    (hk16 : PySem.W.keepIn K (.ref f16) = true)
    (ha17 : PySem.W.nsIn K mainGlobals "_law_spoilt" = some (some (.ref f17)))
    (hl17 : K.lookup f17 = some ⟨oc17, od17, .func (PySem.W.fnOf "_law_spoilt" "_law_spoilt" (defArgs sSpoilt) (defBody sSpoilt) (defScope sSpoilt) .none kV17 dc17 pm17 an17 cd17 ct17), sl17⟩)
    (hc17 : PySem.W.codeIn K cd17 "_law_spoilt" = true)
    (hk17 : PySem.W.keepIn K (.ref f17) = true)
    (ha18 : PySem.W.nsIn K mainGlobals "_law_number" = some (some (.ref f18)))
    (hl18 : K.lookup f18 = some ⟨oc18, od18, .func (PySem.W.fnOf "_law_number" "_law_number" (defArgs sNumber) (defBody sNumber) (defScope sNumber) .none kV18 dc18 pm18 an18 cd18 ct18), sl18⟩)
    (hc18 : PySem.W.codeIn K cd18 "_law_number" = true)
    (hk18 : PySem.W.keepIn K (.ref f18) = true)
    (ha19 : PySem.W.nsIn K mainGlobals "_law_read" = some (some (.ref f19)))
    (hl19 : K.lookup f19 = some ⟨oc19, od19, .func (PySem.W.fnOf "_law_read" "_law_read" (defArgs sLRead) (defBody sLRead) (defScope sLRead) .none kV19 dc19 pm19 an19 cd19 ct19), sl19⟩)
    (hc19 : PySem.W.codeIn K cd19 "_law_read" = true)
    (hk19 : PySem.W.keepIn K (.ref f19) = true)
    (ha20 : PySem.W.nsIn K mainGlobals "_law_asked" = some (some (.ref f20)))
    (hl20 : K.lookup f20 = some ⟨oc20, od20, .func (PySem.W.fnOf "_law_asked" "_law_asked" (defArgs sAsked) (defBody sAsked) (defScope sAsked) .none kV20 dc20 pm20 an20 cd20 ct20), sl20⟩)
    (hc20 : PySem.W.codeIn K cd20 "_law_asked" = true)
    (hk20 : PySem.W.keepIn K (.ref f20) = true)
    (ha21 : PySem.W.nsIn K mainGlobals "_law_bank" = some (some (.ref f21)))
    (hl21 : K.lookup f21 = some ⟨oc21, od21, .func (PySem.W.fnOf "_law_bank" "_law_bank" (defArgs sBank) (defBody sBank) (defScope sBank) .none kV21 dc21 pm21 an21 cd21 ct21), sl21⟩)
    (hc21 : PySem.W.codeIn K cd21 "_law_bank" = true)
    (hk21 : PySem.W.keepIn K (.ref f21) = true)
    (ha22 : PySem.W.nsIn K mainGlobals "_law_refused" = some (some (.ref f22)))
    (hl22 : K.lookup f22 = some ⟨oc22, od22, .func (PySem.W.fnOf "_law_refused" "_law_refused" (defArgs sRfd) (defBody sRfd) (defScope sRfd) .none kV22 dc22 pm22 an22 cd22 ct22), sl22⟩)
    (hc22 : PySem.W.codeIn K cd22 "_law_refused" = true)
    (hk22 : PySem.W.keepIn K (.ref f22) = true)
    (ha23 : PySem.W.nsIn K mainGlobals "_law_shares" = some (some (.ref f23)))
    (hl23 : K.lookup f23 = some ⟨oc23, od23, .func (PySem.W.fnOf "_law_shares" "_law_shares" (defArgs sShares) (defBody sShares) (defScope sShares) .none kV23 dc23 pm23 an23 cd23 ct23), sl23⟩)
    (hc23 : PySem.W.codeIn K cd23 "_law_shares" = true)
    (hk23 : PySem.W.keepIn K (.ref f23) = true)
    (ha24 : PySem.W.nsIn K mainGlobals "_law_shares_text" = some (some (.ref f24)))
    (hl24 : K.lookup f24 = some ⟨oc24, od24, .func (PySem.W.fnOf "_law_shares_text" "_law_shares_text" (defArgs sShT) (defBody sShT) (defScope sShT) .none kV24 dc24 pm24 an24 cd24 ct24), sl24⟩)
    (hc24 : PySem.W.codeIn K cd24 "_law_shares_text" = true)
    (hk24 : PySem.W.keepIn K (.ref f24) = true)
    (ha25 : PySem.W.nsIn K mainGlobals "law" = some (some (.ref f25)))
    (hl25 : K.lookup f25 = some ⟨oc25, od25, .func (PySem.W.fnOf "law" "law" (defArgs sLaw) (defBody sLaw) (defScope sLaw) .none kV25 dc25 pm25 an25 cd25 ct25), sl25⟩)
    (hc25 : PySem.W.codeIn K cd25 "law" = true)
    (hk25 : PySem.W.keepIn K (.ref f25) = true)
    (hz_isinstance : PySem.W.nsIn K mainGlobals "isinstance" = some none)
    (hz_str : PySem.W.nsIn K mainGlobals "str" = some none)
    (hz_int : PySem.W.nsIn K mainGlobals "int" = some none)
    (hz_bool : PySem.W.nsIn K mainGlobals "bool" = some none)
    (hz_list : PySem.W.nsIn K mainGlobals "list" = some none)
    (hz_tuple : PySem.W.nsIn K mainGlobals "tuple" = some none)
    (hz_len : PySem.W.nsIn K mainGlobals "len" = some none)
    (hz_sum : PySem.W.nsIn K mainGlobals "sum" = some none)
    (hz_max : PySem.W.nsIn K mainGlobals "max" = some none)
    (hz_min : PySem.W.nsIn K mainGlobals "min" = some none)
    (hz_range : PySem.W.nsIn K mainGlobals "range" = some none)
    (hz_enumerate : PySem.W.nsIn K mainGlobals "enumerate" = some none)
    (hz_ValueError : PySem.W.nsIn K mainGlobals "ValueError" = some none)
    (hz_all : PySem.W.nsIn K mainGlobals "all" = some none)
    (hdry : PySem.W.nsIn K mainGlobals "DRY" = some (some (.str "dry" td)))
    (hwet : PySem.W.nsIn K mainGlobals "WET" = some (some (.str "wet" tw)))
    (hgB : PySem.W.nsIn K mainGlobals "BankError" = some (some (.ref aB)))
    (hbx : PySem.W.excIn K aB [.type "ValueError", .type "Exception", .type "BaseException", .type "object"] "ValueError.__new__" = true)
    (hbga : PySem.W.specialIn K (.ref aB) "__getattribute__" = some (some (.builtin "type.__getattribute__")))
    (hbrd : PySem.W.readsIn K aB (.type "type") = true)
    (hbfc : PySem.W.findCls K (.ref aB) (.type "type") "__init__" = some (.val (.builtin "ValueError.__init__")))
    (hbcls : PySem.W.clsIn K aB = some cB)
    (hbty : PySem.W.typeIn K (.ref aB) = some (.type "type"))
    (hbex : PySem.W.mroIn K aB (.type "BaseException") = some true)
    (hxhn : PySem.W.specialIn K (.builtin "object.__class__") "__get__" = some (some (.builtin "getset_descriptor.__get__")))
    (hxtk : PySem.W.takesIn K (.builtin "object.__class__") = some true)
    (hgX : PySem.W.nsIn K mainGlobals "NoText" = some (some (.ref aX)))
    (hoX : K.lookup aX = some (excClassObj nmX qX aX NX bsX (.ref aB :: [.type "ValueError", .type "Exception", .type "BaseException", .type "object"]) true snX subX abX colX ddX kaX kbX kcX kdX keX "ValueError.__new__"))
    (hiX : PySem.W.findIn K (.ref aX) "__init__" = some (some (.ref iX)))
    (htX : PySem.W.typeIn K (.ref iX) = some (.type "function"))
    (hsX : PySem.W.findIn K (.ref aX) "__setattr__" = some (some (.builtin "object.__setattr__")))
    (hcaX : PySem.W.specialIn K (.ref aX) "__call__" = some (some (.builtin "type.__call__")))
    (hinX : PySem.W.instIn K (.ref aX) (.type "type") = some true)
    (hkpX : PySem.W.keepIn K (.ref aX) = true)
    (hxgaX : PySem.W.findIn K (.ref aX) "__getattribute__" = some (some (.builtin "BaseException.__getattribute__")))
    (hxghX : PySem.W.findIn K (.ref aX) "__getattr__" = some none)
    (hxbeX : PySem.W.mroIn K aX (.type "BaseException") = some true)
    (hxobX : PySem.W.mroIn K aX (.type "object") = some true)
    (hxclX : PySem.W.findIn K (.ref aX) "__class__" = some (some (.builtin "object.__class__")))
    (hxcX : PySem.W.clsIn K aX = some cX)
    (hnaX : PySem.W.findIn K (.ref aX) "place" = some none)
    (hflX : K.lookup iX = some ⟨focX, fodX, .func (PySem.W.fnOf "__init__" "NoText.__init__" (defArgs Q8.sInitX) (defBody Q8.sInitX) (defScope Q8.sInitX) .none fkvX fdcX fpmX fanX fcdX fctX), fslX⟩)
    (hfcX : PySem.W.codeIn K fcdX "NoText.__init__" = true)
    (hfkX : PySem.W.keepIn K (.ref iX) = true)
    (hmX : PySem.W.mroIn K aX (.ref aB) = some true)
    (hhdX : PySem.W.hasDictIn K aX = true)
    (hvX : PySem.W.kitOne K (.ref aX) (.type "ValueError") = some true)
    (he1 : PySem.W.nsIn K mainGlobals "NoGround" = some (some (.ref e1)))
    (he2 : PySem.W.nsIn K mainGlobals "NoHeirs" = some (some (.ref e2)))
    (he3 : PySem.W.nsIn K mainGlobals "NoLength" = some (some (.ref e3)))
    (he4 : PySem.W.nsIn K mainGlobals "Odd" = some (some (.ref e4)))
    (he5 : PySem.W.nsIn K mainGlobals "OffBank" = some (some (.ref e5)))
    (he6 : PySem.W.nsIn K mainGlobals "Uneven" = some (some (.ref e6)))
    (hnX : PySem.W.kitAny K (.ref aX) [.ref e1, .ref e2, .ref e3, .ref e4, .ref e5, .ref e6] = some false)
    (hfig : PySem.W.nsIn K mainGlobals "FIGURES" = some (some (.str "0123456789" tk1)))
    (hmost : PySem.W.nsIn K mainGlobals "MOST_FIGURES" = some (some (.int 60 tk2)))
    (hcomma : PySem.W.nsIn K mainGlobals "COMMA" = some (some (.str ", " tk3)))
    : ∃ fd : FuncData, (∀ (s : Shared) (v : Value), BindsTo s fd ⟨[v], []⟩ [("_law_script", v)]) ∧ ∀ base : Heap, K.In base → base.Ns mainGlobals mg → FnOk l.prog w K mg base CX0 6 fa fd ["_law_script"] (spLaw K) := by
  have e := hfa.symm.trans (PySem.W.mg_of X G ha25)
  cases e
  have T : Q8.Py mg := ⟨PySem.W.mg_none_of X G hz_isinstance, PySem.W.mg_none_of X G hz_str, PySem.W.mg_none_of X G hz_int, PySem.W.mg_none_of X G hz_bool, PySem.W.mg_none_of X G hz_list, PySem.W.mg_none_of X G hz_tuple, PySem.W.mg_none_of X G hz_len, PySem.W.mg_none_of X G hz_sum, PySem.W.mg_none_of X G hz_max, PySem.W.mg_none_of X G hz_min, PySem.W.mg_none_of X G hz_range, PySem.W.mg_none_of X G hz_enumerate, PySem.W.mg_none_of X G hz_ValueError, PySem.W.mg_none_of X G hz_all, ⟨_, PySem.W.mg_of X G hdry⟩, ⟨_, PySem.W.mg_of X G hwet⟩⟩
  have TL : Pl mg := ⟨PySem.W.mg_none_of X G hz_isinstance, PySem.W.mg_none_of X G hz_str, PySem.W.mg_none_of X G hz_int, PySem.W.mg_none_of X G hz_bool, PySem.W.mg_none_of X G hz_list, PySem.W.mg_none_of X G hz_tuple, PySem.W.mg_none_of X G hz_len, PySem.W.mg_none_of X G hz_range, PySem.W.mg_none_of X G hz_ValueError⟩
  have F0 := fung_mk (st := Q8.sGround) hl0 hc0 hk0
  have D0 : Df K mg "is_ground" Q8.sGround ["value"] f0 _ := ⟨F0, PySem.W.mg_of X G ha0, F0.binds (ps := ["value"]) fun _ _ _ _ _ _ us hl => match us, hl with | [_], _ => rfl⟩
  have F1 := fung_mk (st := Q8.sWhole) hl1 hc1 hk1
  have D1 : Df K mg "is_whole" Q8.sWhole ["value"] f1 _ := ⟨F1, PySem.W.mg_of X G ha1, F1.binds (ps := ["value"]) fun _ _ _ _ _ _ us hl => match us, hl with | [_], _ => rfl⟩
  have F2 := fung_mk (st := Q8.sRefuse) hl2 hc2 hk2
  have D2 : Df K mg "refuse_wrong_row" Q8.sRefuse ["row", "place"] f2 _ := ⟨F2, PySem.W.mg_of X G ha2, F2.binds (ps := ["row", "place"]) fun _ _ _ _ _ _ us hl => match us, hl with | [_, _], _ => rfl⟩
  have F3 := fung_mk (st := Q8.sTidy) hl3 hc3 hk3
  have D3 : Df K mg "tidy" Q8.sTidy ["rows"] f3 _ := ⟨F3, PySem.W.mg_of X G ha3, F3.binds (ps := ["rows"]) fun _ _ _ _ _ _ us hl => match us, hl with | [_], _ => rfl⟩
  have F4 := fung_mk (st := Q8.sLongF) hl4 hc4 hk4
  have D4 : Df K mg "is_long" Q8.sLongF ["text"] f4 _ := ⟨F4, PySem.W.mg_of X G ha4, F4.binds (ps := ["text"]) fun _ _ _ _ _ _ us hl => match us, hl with | [_], _ => rfl⟩
  have F5 := fung_mk (st := Q8.sRP) hl5 hc5 hk5
  have D5 : Df K mg "read_part" Q8.sRP ["text", "place"] f5 _ := ⟨F5, PySem.W.mg_of X G ha5, F5.binds (ps := ["text", "place"]) fun _ _ _ _ _ _ us hl => match us, hl with | [_, _], _ => rfl⟩
  have F6 := fung_mk (st := Q8.sRead) hl6 hc6 hk6
  have D6 : Df K mg "read" Q8.sRead ["text"] f6 _ := ⟨F6, PySem.W.mg_of X G ha6, F6.binds (ps := ["text"]) fun _ _ _ _ _ _ us hl => match us, hl with | [_], _ => rfl⟩
  have F7 := fung_mk (st := Q8.sShown) hl7 hc7 hk7
  have D7 : Df K mg "shown" Q8.sShown ["bank"] f7 _ := ⟨F7, PySem.W.mg_of X G ha7, F7.binds (ps := ["bank"]) fun _ _ _ _ _ _ us hl => match us, hl with | [_], _ => rfl⟩
  have F8 := fung_mk (st := Q8.sShSh) hl8 hc8 hk8
  have D8 : Df K mg "shown_share" Q8.sShSh ["share"] f8 _ := ⟨F8, PySem.W.mg_of X G ha8, F8.binds (ps := ["share"]) fun _ _ _ _ _ _ us hl => match us, hl with | [_], _ => rfl⟩
  have F9 := fung_mk (st := Q8.sShSs) hl9 hc9 hk9
  have D9 : Df K mg "shown_shares" Q8.sShSs ["shares"] f9 _ := ⟨F9, PySem.W.mg_of X G ha9, F9.binds (ps := ["shares"]) fun _ _ _ _ _ _ us hl => match us, hl with | [_], _ => rfl⟩
  have F10 := fung_mk (st := sCell) hl10 hc10 hk10
  have D10 : Df K mg "_law_cell_at" sCell ["_law_script", "_law_k"] f10 _ := ⟨F10, PySem.W.mg_of X G ha10, F10.binds (ps := ["_law_script", "_law_k"]) fun _ _ _ _ _ _ us hl => match us, hl with | [_, _], _ => rfl⟩
  have F11 := fung_mk (st := sLWh) hl11 hc11 hk11
  have D11 : Df K mg "_law_whole" sLWh ["_law_found"] f11 _ := ⟨F11, PySem.W.mg_of X G ha11, F11.binds (ps := ["_law_found"]) fun _ _ _ _ _ _ us hl => match us, hl with | [_], _ => rfl⟩
  have F12 := fung_mk (st := sRow) hl12 hc12 hk12
  have D12 : Df K mg "_law_row" sRow ["_law_cell"] f12 _ := ⟨F12, PySem.W.mg_of X G ha12, F12.binds (ps := ["_law_cell"]) fun _ _ _ _ _ _ us hl => match us, hl with | [_], _ => rfl⟩
  have F13 := fung_mk (st := sLTidy) hl13 hc13 hk13
  have D13 : Df K mg "_law_tidy" sLTidy ["_law_rows"] f13 _ := ⟨F13, PySem.W.mg_of X G ha13, F13.binds (ps := ["_law_rows"]) fun _ _ _ _ _ _ us hl => match us, hl with | [_], _ => rfl⟩
  have F14 := fung_mk (st := sText) hl14 hc14 hk14
  have D14 : Df K mg "_law_text" sText ["_law_rows"] f14 _ := ⟨F14, PySem.W.mg_of X G ha14, F14.binds (ps := ["_law_rows"]) fun _ _ _ _ _ _ us hl => match us, hl with | [_], _ => rfl⟩
  have F15 := fung_mk (st := sSign) hl15 hc15 hk15
  have D15 : Df K mg "_law_sign" sSign ["_law_cell"] f15 _ := ⟨F15, PySem.W.mg_of X G ha15, F15.binds (ps := ["_law_cell"]) fun _ _ _ _ _ _ us hl => match us, hl with | [_], _ => rfl⟩
  have F16 := fung_mk (st := sOddP) hl16 hc16 hk16
  have D16 : Df K mg "_law_odd_part" sOddP ["_law_cell"] f16 _ := ⟨F16, PySem.W.mg_of X G ha16, F16.binds (ps := ["_law_cell"]) fun _ _ _ _ _ _ us hl => match us, hl with | [_], _ => rfl⟩
  have F17 := fung_mk (st := sSpoilt) hl17 hc17 hk17
  have D17 : Df K mg "_law_spoilt" sSpoilt ["_law_text_here", "_law_parts", "_law_script"] f17 _ := ⟨F17, PySem.W.mg_of X G ha17, F17.binds (ps := ["_law_text_here", "_law_parts", "_law_script"]) fun _ _ _ _ _ _ us hl => match us, hl with | [_, _, _], _ => rfl⟩
  have F18 := fung_mk (st := sNumber) hl18 hc18 hk18
  have D18 : Df K mg "_law_number" sNumber ["_law_word"] f18 _ := ⟨F18, PySem.W.mg_of X G ha18, F18.binds (ps := ["_law_word"]) fun _ _ _ _ _ _ us hl => match us, hl with | [_], _ => rfl⟩
  have F19 := fung_mk (st := sLRead) hl19 hc19 hk19
  have D19 : Df K mg "_law_read" sLRead ["_law_text_here"] f19 _ := ⟨F19, PySem.W.mg_of X G ha19, F19.binds (ps := ["_law_text_here"]) fun _ _ _ _ _ _ us hl => match us, hl with | [_], _ => rfl⟩
  have F20 := fung_mk (st := sAsked) hl20 hc20 hk20
  have D20 : Df K mg "_law_asked" sAsked ["_law_thing"] f20 _ := ⟨F20, PySem.W.mg_of X G ha20, F20.binds (ps := ["_law_thing"]) fun _ _ _ _ _ _ us hl => match us, hl with | [_], _ => rfl⟩
  have F21 := fung_mk (st := sBank) hl21 hc21 hk21
  have D21 : Df K mg "_law_bank" sBank ["_law_found", "_law_due"] f21 _ := ⟨F21, PySem.W.mg_of X G ha21, F21.binds (ps := ["_law_found", "_law_due"]) fun _ _ _ _ _ _ us hl => match us, hl with | [_, _], _ => rfl⟩
  have F22 := fung_mk (st := sRfd) hl22 hc22 hk22
  have D22 : Df K mg "_law_refused" sRfd ["_law_found", "_law_place"] f22 _ := ⟨F22, PySem.W.mg_of X G ha22, F22.binds (ps := ["_law_found", "_law_place"]) fun _ _ _ _ _ _ us hl => match us, hl with | [_, _], _ => rfl⟩
  have F23 := fung_mk (st := sShares) hl23 hc23 hk23
  have D23 : Df K mg "_law_shares" sShares ["_law_script"] f23 _ := ⟨F23, PySem.W.mg_of X G ha23, F23.binds (ps := ["_law_script"]) fun _ _ _ _ _ _ us hl => match us, hl with | [_], _ => rfl⟩
  have F24 := fung_mk (st := sShT) hl24 hc24 hk24
  have D24 : Df K mg "_law_shares_text" sShT ["_law_shares_here"] f24 _ := ⟨F24, PySem.W.mg_of X G ha24, F24.binds (ps := ["_law_shares_here"]) fun _ _ _ _ _ _ us hl => match us, hl with | [_], _ => rfl⟩
  have F25 := fung_mk (st := sLaw) hl25 hc25 hk25
  have IX : ExcI K aX aB iX := ⟨⟨nmX, qX, NX, bsX, snX, subX, abX, colX, ddX, kaX, kbX, kcX, kdX, keX, hoX⟩, hbx, hiX, htX, hsX, hcaX, hinX, hkpX, ⟨hxgaX, hxghX, hxbeX, hxobX, hxclX, hxhn, hxtk, by rw [hxcX]; rfl⟩⟩
  have FFX := fung_mk (x := "__init__") (qual := "NoText.__init__") (st := Q8.sInitX) hflX hfcX hfkX
  have BBX := FFX.binds (ps := ["self", "place"]) fun _ _ _ _ _ _ us hl => match us, hl with | [_, _], _ => rfl
  have RX : Q8.Rx K mg aX aB iX _ := ⟨PySem.W.mg_of X G hgX, PySem.W.mg_of X G hgB, IX, hnaX, ⟨hbga, hbrd, hbfc⟩, FFX, BBX, ⟨_, PySem.W.mg_of X G hfig⟩, ⟨_, PySem.W.mg_of X G hmost⟩, ⟨_, PySem.W.mg_of X G hcomma⟩⟩
  have R : Od K mg aX aB e1 e2 e3 e4 e5 e6 := ⟨PySem.W.mg_of X G hgX, PySem.W.mg_of X G hgB, PySem.W.mg_of X G he1, PySem.W.mg_of X G he2, PySem.W.mg_of X G he3, PySem.W.mg_of X G he4, PySem.W.mg_of X G he5, PySem.W.mg_of X G he6, ⟨by rw [hbcls]; rfl, hbty, hbex⟩, hmX, IX.exc, hnX, hvX, hhdX, hnaX⟩
  refine ⟨PySem.W.fnOf "law" "law" (defArgs sLaw) (defBody sLaw) (defScope sLaw) .none kV25 dc25 pm25 an25 cd25 ct25, fun s v => .of_eq rfl, fun base _ _ => ?_⟩
  exact ok_law F25 TL R D10 D11 D12 D13 D14 D15 D16 D17 D18 D19 D20 D21 D22 D23 D24 (PySem.W.mg_of X G ha6) hk6 D6.bd (Q8.ok_read (P := l.prog) (w := w) (base := base) F6 T RX D0 D1 D2 D3 D4 D5) (PySem.W.mg_of X G ha7) hk7 D7.bd (Q8.ok_shown F7 T RX) (PySem.W.mg_of X G ha9) hk9 D9.bd (Q8.ok_shss F9 T D8)
theorem walk {l : PySem.W.OpenLaw} {q : Program} {loose : List Str} {XP : (Str → Option Value) → Heap → Prop} {YP : World → Heap → Prop} {d : DefRec} {K : Params → PySem.W.Frag} (hn : l.most = some 63) (hdf : d.params.defaults = [])
    (hY : ∀ (w : World) (h : Heap), YP w h → (K w.params).In h)
    (F : ∀ (w : World) (mg : Str → Option Value) (fa : Addr) (h : Heap), (K w.params).In h → h.Ns mainGlobals mg → mg d.name = some (.ref fa) →
      ∃ fd : FuncData, (∀ (s : Shared) (u : Value), BindsTo s fd ⟨[u], []⟩ [("_law_script", u)]) ∧ ∀ base : Heap, (K w.params).In base → base.Ns mainGlobals mg → FnOk l.prog w (K w.params) mg base CX0 6 fa fd ["_law_script"] (spLaw (K w.params))) :
    PySem.W.WalkO q loose XP YP l.row.toRowW d [] (fun f vs => PySem.call f vs) :=
  L2.walk_of (n := 63) (k := 6) (x := "_law_script") (CX := fun _ => CX0) (sp := fun w => spLaw (K w.params)) hn (by decide) hdf ⟨rfl, by decide, by decide⟩ hY F (fun _ _ a ns hl _ hS => ⟨a, ns, rfl, hS, hl, fun _ => rfl⟩) fun _ _ _ _ _ z => z
end K8
open PySem PySem.W PyProof.Rows
set_option maxRecDepth 100000 in
set_option maxHeartbeats 0 in
theorem PySem.Challenge.cw_bankshare_k08_texts_holds : PySem.Challenge.rw_bankshare_k08_texts.Holds := by
  w_on; o_law; k_head; (case hw => w_witness2)
  k_fill
  refine K8.walk (l := PySem.Challenge.rw_bankshare_k08_texts) rfl rfl (fun w h Y => PySem.W.kIn_of Y) ?F
  case F =>
    intro w mg fa h KX G hmg
    refine' K8.all_mk KX G hmg ?a0 ?l0 ?c0 ?k0 ?a1 ?l1 ?c1 ?k1 ?a2 ?l2 ?c2 ?k2 ?a3 ?l3 ?c3 ?k3 ?a4 ?l4 ?c4 ?k4 ?a5 ?l5 ?c5 ?k5 ?a6 ?l6 ?c6 ?k6 ?a7 ?l7 ?c7 ?k7 ?a8 ?l8 ?c8 ?k8 ?a9 ?l9 ?c9 ?k9 ?a10 ?l10 ?c10 ?k10 ?a11 ?l11 ?c11 ?k11 ?a12 ?l12 ?c12 ?k12 ?a13 ?l13 ?c13 ?k13 ?a14 ?l14 ?c14 ?k14 ?a15 ?l15 ?c15 ?k15 ?a16 ?l16 ?c16 ?k16 ?a17 ?l17 ?c17 ?k17 ?a18 ?l18 ?c18 ?k18 ?a19 ?l19 ?c19 ?k19 ?a20 ?l20 ?c20 ?k20 ?a21 ?l21 ?c21 ?k21 ?a22 ?l22 ?c22 ?k22 ?a23 ?l23 ?c23 ?k23 ?a24 ?l24 ?c24 ?k24 ?a25 ?l25 ?c25 ?k25 ?z_isinstance ?z_str ?z_int ?z_bool ?z_list ?z_tuple ?z_len ?z_sum ?z_max ?z_min ?z_range ?z_enumerate ?z_ValueError ?z_all ?dry ?wet ?gB ?bx ?bga ?brd ?bfc ?bcls ?bty ?bex ?xhn ?xtk ?gX ?oX ?iX ?tX ?sX ?caX ?inX ?kpX ?xgaX ?xghX ?xbeX ?xobX ?xclX ?xcX ?naX ?flX ?fcX ?fkX ?mX ?hdX ?vX ?e1 ?e2 ?e3 ?e4 ?e5 ?e6 ?nX ?fig ?most ?comma
    (case a0 => k_is)
    (case l0 => k_is)
    (case c0 => k_is)
    (case k0 => k_is)
    (case a1 => k_is)
    (case l1 => k_is)
    (case c1 => k_is)
    (case k1 => k_is)
    (case a2 => k_is)
    (case l2 => k_is)
    (case c2 => k_is)
    (case k2 => k_is)
    (case a3 => k_is)
    (case l3 => k_is)
    (case c3 => k_is)
    (case k3 => k_is)
    (case a4 => k_is)
    (case l4 => k_is)
    (case c4 => k_is)
    (case k4 => k_is)
    (case a5 => k_is)
    (case l5 => k_is)
    (case c5 => k_is)
    (case k5 => k_is)
    (case a6 => k_is)
    (case l6 => k_is)
    (case c6 => k_is)
    (case k6 => k_is)
    (case a7 => k_is)
    (case l7 => k_is)
    (case c7 => k_is)
    (case k7 => k_is)
    (case a8 => k_is)
    (case l8 => k_is)
    (case c8 => k_is)
    (case k8 => k_is)
    (case a9 => k_is)
    (case l9 => k_is)
    (case c9 => k_is)
    (case k9 => k_is)
    (case a10 => k_is)
    (case l10 => k_is)
    (case c10 => k_is)
    (case k10 => k_is)
    (case a11 => k_is)
    (case l11 => k_is)
    (case c11 => k_is)
    (case k11 => k_is)
    (case a12 => k_is)
    (case l12 => k_is)
    (case c12 => k_is)
    (case k12 => k_is)
    (case a13 => k_is)
    (case l13 => k_is)
    (case c13 => k_is)
    (case k13 => k_is)
    (case a14 => k_is)
    (case l14 => k_is)
    (case c14 => k_is)
    (case k14 => k_is)
    (case a15 => k_is)
    (case l15 => k_is)
    (case c15 => k_is)
    (case k15 => k_is)
    (case a16 => k_is)
    (case l16 => k_is)
    (case c16 => k_is)
    (case k16 => k_is)
    (case a17 => k_is)
    (case l17 => k_is)
    (case c17 => k_is)
    (case k17 => k_is)
    (case a18 => k_is)
    (case l18 => k_is)
    (case c18 => k_is)
    (case k18 => k_is)
    (case a19 => k_is)
    (case l19 => k_is)
    (case c19 => k_is)
    (case k19 => k_is)
    (case a20 => k_is)
    (case l20 => k_is)
    (case c20 => k_is)
    (case k20 => k_is)
    (case a21 => k_is)
    (case l21 => k_is)
    (case c21 => k_is)
    (case k21 => k_is)
    (case a22 => k_is)
    (case l22 => k_is)
    (case c22 => k_is)
    (case k22 => k_is)
    (case a23 => k_is)
    (case l23 => k_is)
    (case c23 => k_is)
    (case k23 => k_is)
    (case a24 => k_is)
    (case l24 => k_is)
    (case c24 => k_is)
    (case k24 => k_is)
    (case a25 => k_is)
    (case l25 => k_is)
    (case c25 => k_is)
    (case k25 => k_is)
    (case z_isinstance => k_is)
    (case z_str => k_is)
    (case z_int => k_is)
    (case z_bool => k_is)
    (case z_list => k_is)
    (case z_tuple => k_is)
    (case z_len => k_is)
    (case z_sum => k_is)
    (case z_max => k_is)
    (case z_min => k_is)
    (case z_range => k_is)
    (case z_enumerate => k_is)
    (case z_ValueError => k_is)
    (case z_all => k_is)
    (case dry => k_is)
    (case wet => k_is)
    (case gB => k_is)
    (case bx => k_exc)
    (case bga => k_is)
    (case brd => k_is)
    (case bfc => k_is)
    (case bcls => k_is)
    (case bty => k_is)
    (case bex => k_is)
    (case xhn => k_is)
    (case xtk => k_is)
    (case gX => k_is)
    (case oX => k_is)
    (case iX => k_is)
    (case tX => k_is)
    (case sX => k_is)
    (case caX => k_is)
    (case inX => k_is)
    (case kpX => k_is)
    (case xgaX => k_is)
    (case xghX => k_is)
    (case xbeX => k_is)
    (case xobX => k_is)
    (case xclX => k_is)
    (case xcX => k_is)
    (case naX => k_is)
    (case flX => k_is)
    (case fcX => k_is)
    (case fkX => k_is)
    (case mX => k_is)
    (case hdX => k_is)
    (case vX => kit_is)
    (case e1 => k_is)
    (case e2 => k_is)
    (case e3 => k_is)
    (case e4 => k_is)
    (case e5 => k_is)
    (case e6 => k_is)
    (case nX => kit_is)
    (case fig => k_is)
    (case most => k_is)
    (case comma => k_is)
