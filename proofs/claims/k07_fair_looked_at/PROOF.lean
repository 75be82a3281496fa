import PyProof.Rows.All
import Wide.All
import OpenK.AllK
import Wide.FinOn
import Lean
import PyProof.EqAt
import PyProof.EqKinds
import PyProof.TupleCall
import PyProof.Rows.EqDataRows
import PyProof.NeData
import OpenK.KOwn
import PyProof.InstStoreFacts
import KE.RegKIsAll
import PyProof.StationsW
import PyProof.PassesOwn
import KE.KSortTup
import KE.KRevIter
import PyProof.ListRange
import PyProof.Rows.SortWalk
import PyProof.SetScanFacts
import PyProof.SetKind
import PyProof.DictKinds
import PyProof.DictStraight
import PyProof.Rows.SetFrom
import PyProof.WalksS
import PyProof.DictIter
import PyProof.ZipIter
import PyProof.FactsAll.set_1
import PyProof.Rows.TupIn
import PyProof.CollectWalk
import PyProof.SliceList
import KE.KIntText
import KE.LcSums
import PyProof.MeetsStr2
import PyProof.StrBlock2
import PyProof.StrBlockL
import PyProof.StrCalls6
import PyProof.StrReplace2
import PyProof.SliceStr2
import PyProof.StrLawsTight
import PyProof.Rows.StrItems
import PyProof.Rows.StrSplitAre
import PySem.Challenge.RW_bankshare_k07_fair_looked_at

set_option Elab.async false
set_option linter.all false
set_option maxRecDepth 100000
namespace L2
open PySem PySem.Spec PyProof.Rows

noncomputable abbrev Key := Sum Int Str
noncomputable def keyIs : Key → Value → Bool
  | .inl k, v => Value.isInt k v
  | .inr x, v => Value.isStrOf x v
noncomputable def keyH (w : World) : Key → Int
  | .inl k => hashInt k
  | .inr x => hashStr w x
theorem keyIs_shape : ∀ {k : Key} {v : Value}, keyIs k v = true → (∃ i t, k = Sum.inl i ∧ v = Value.int i t) ∨ (∃ x t, k = Sum.inr x ∧ v = Value.str x t)
  | .inl i, v, h => by
    obtain ⟨t, e⟩ := Value.isInt_shape (k := i) (v := v) h
    exact .inl ⟨i, t, rfl, e⟩
  | .inr x, v, h => by
    obtain ⟨t, e⟩ := Value.isStrOf_shape (x := x) (v := v) h
    exact .inr ⟨x, t, rfl, e⟩
theorem keyIs_int (i : Int) (t : Tok) : keyIs (.inl i) (.int i t) = true := by simp [keyIs, Value.isInt]
theorem keyIs_str (x : Str) (t : Tok) : keyIs (.inr x) (.str x t) = true := by simp [keyIs, Value.isStrOf]
theorem key_ll (a b : Int) : decide ((Sum.inl a : Key) = Sum.inl b) = (a == b) := by
  by_cases e : a = b
  · subst e; simp
  · have h : ¬ (Sum.inl a : Key) = Sum.inl b := fun q => e (Sum.inl.inj q)
    rw [decide_eq_false h]
    exact (beq_eq_false_iff_ne.mpr e).symm
theorem key_rr (a b : Str) : decide ((Sum.inr a : Key) = Sum.inr b) = decide (a = b) := by
  by_cases e : a = b
  · subst e; simp
  · have h : ¬ (Sum.inr a : Key) = Sum.inr b := fun q => e (Sum.inr.inj q)
    rw [decide_eq_false h, decide_eq_false e]
theorem key_lr (a : Int) (b : Str) : decide ((Sum.inl a : Key) = Sum.inr b) = false := decide_eq_false (fun q => nomatch q)
theorem key_rl (a : Str) (b : Int) : decide ((Sum.inr a : Key) = Sum.inl b) = false := decide_eq_false (fun q => nomatch q)

noncomputable def mixKind (prog : Program) (w : World) : PySem.KeyKind prog w Key where
  is := keyIs
  hash := keyH w
  inj := fun v a b ha hb => by
    rcases keyIs_shape ha with ⟨i, t, rfl, rfl⟩ | ⟨x, t, rfl, rfl⟩
    · rcases keyIs_shape hb with ⟨j, u, rfl, e⟩ | ⟨y, u, rfl, e⟩
      · injection e with e1 _; rw [e1]
      · exact nomatch e
    · rcases keyIs_shape hb with ⟨j, u, rfl, e⟩ | ⟨y, u, rfl, e⟩
      · exact nomatch e
      · injection e with e1 _; rw [e1]
  byValue := fun k v h => by
    rcases keyIs_shape h with ⟨i, t, rfl, rfl⟩ | ⟨x, t, rfl, rfl⟩ <;> rfl
  pyHash := fun hv h => by
    rcases keyIs_shape hv with ⟨i, t, rfl, rfl⟩ | ⟨x, t, rfl, rfl⟩
    · exact wpAny_pyHash_int h
    · exact wpAny_pyHash_str h
  eqBool := fun hu hv h => by
    rcases keyIs_shape hu with ⟨i, t, rfl, rfl⟩ | ⟨x, t, rfl, rfl⟩
    · rcases keyIs_shape hv with ⟨j, u, rfl, rfl⟩ | ⟨y, u, rfl, rfl⟩
      · rw [key_ll] at h; exact wpAny_eqBool_int h
      · rw [key_lr] at h; exact SeqAt.EqAt.int_str i t y u _ _ _ _ h
    · rcases keyIs_shape hv with ⟨j, u, rfl, rfl⟩ | ⟨y, u, rfl, rfl⟩
      · rw [key_rl] at h; exact SeqAt.EqAt.str_int x t j u _ _ _ _ h
      · rw [key_rr] at h; exact wpAny_eqBool_str h
  «strs» := fun k x t v h => by
    rcases keyIs_shape h with ⟨i, u, rfl, e⟩ | ⟨y, u, rfl, e⟩
    · exact nomatch e
    · injection e with e1 _
      subst e1
      cases v <;> rfl

theorem mixKind_int (prog : Program) (w : World) (i : Int) (t : Tok) : (mixKind prog w).is (.inl i) (.int i t) = true := keyIs_int i t
theorem mixKind_str (prog : Program) (w : World) (x : Str) (t : Tok) : (mixKind prog w).is (.inr x) (.str x t) = true := keyIs_str x t
end L2

namespace L2
open PySem PySem.Spec PyProof.Rows

inductive V where
  | non | bl (b : Bool) | int (i : Int) | str (x : Str) | byt (b : Array UInt8) | flt (b : UInt64) | ref (a : Addr) | ty (n : String)
  deriving DecidableEq

noncomputable def RelV : V → Value → Prop
  | .non, u => u = Value.none
  | .bl b, u => u = Value.bool b
  | .int i, u => ∃ t, u = Value.int i t
  | .str x, u => ∃ t, u = Value.str x t
  | .byt b, u => ∃ t, u = Value.bytes b t
  | .flt b, u => ∃ t, u = Value.float b t
  | .ref a, u => u = Value.ref a
  | .ty n, u => u = Value.type n

noncomputable abbrev Vals : List V → List Value → Prop := Paired RelV
theorem Vals.length {xs : List V} {us : List Value} (r : Vals xs us) : xs.length = us.length := Paired.length r
theorem Vals.get : ∀ {xs : List V} {us : List Value} {i : Nat} {x : V}, Vals xs us → xs[i]? = some x → ∃ u, us[i]? = some u ∧ RelV x u
  | _, _, _, _, .nil, e => by simp at e
  | _, _, 0, _, .cons r _, e => by simp at e; subst e; exact ⟨_, rfl, r⟩
  | _, _, i + 1, x, .cons _ t, e => by
    obtain ⟨u, h1, h2⟩ := Vals.get (i := i) (x := x) t (by simpa using e)
    exact ⟨u, by simpa using h1, h2⟩
theorem Vals.set {x : V} {u : Value} (r : RelV x u) : ∀ {xs : List V} {us : List Value} (i : Nat), Vals xs us → Vals (xs.set i x) (us.set i u)
  | _, _, _, .nil => .nil
  | _, _, 0, .cons _ t => .cons r t
  | _, _, i + 1, .cons q t => .cons q (Vals.set r i t)
theorem Vals.append : ∀ {xs ys : List V} {us ws : List Value}, Vals xs us → Vals ys ws → Vals (xs ++ ys) (us ++ ws)
  | _, _, _, _, .nil, s => s
  | _, _, _, _, .cons r t, s => .cons r (Vals.append t s)
theorem Vals.take : ∀ {xs : List V} {us : List Value} (n : Nat), Vals xs us → Vals (xs.take n) (us.take n)
  | _, _, 0, _ => .nil
  | _, _, _ + 1, .nil => .nil
  | _, _, n + 1, .cons r t => .cons r (Vals.take n t)
theorem Vals.drop : ∀ {xs : List V} {us : List Value} (n : Nat), Vals xs us → Vals (xs.drop n) (us.drop n)
  | _, _, 0, r => r
  | _, _, _ + 1, .nil => .nil
  | _, _, n + 1, .cons _ t => Vals.drop n t

noncomputable def RelO : Option V → Option Value → Prop
  | some v, some u => RelV v u
  | none, none => True
  | _, _ => False
noncomputable def KV {κ : Type} : List (κ × V) → List (κ × Value) → Prop := Paired fun (p : κ × V) (q : κ × Value) => p.1 = q.1 ∧ RelV p.2 q.2

noncomputable def kV : Key → V
  | .inl i => .int i
  | .inr x => .str x

inductive HO where
    | lst (xs : List V)
    | tup (xs : List V)
    | dK (kvs : List (Key × V)) | dT (kvs : List (List Key × V))
    | set (S : Int → Bool) (n : Nat)
    | ins (C dx : Addr) (fs : List (Str × V))
    | own (x : Addr)
    | xd (fs : List (Str × V))
    | met (f x : Addr)
    | rng (lo hi : Int)
    | frz (o : Obj) (u : HO)
    | tbl (ps : Array Value)
    | ext (φ : Heap → Prop)

noncomputable abbrev Hp := Addr → Option HO
noncomputable def upd (H : Hp) (a : Addr) (o : HO) : Hp := fun b => if b = a then some o else H b
theorem upd_same {H : Hp} {a : Addr} {o : HO} : upd H a o a = some o := by unfold upd; rw [if_pos rfl]
theorem upd_ne {H : Hp} {a b : Addr} {o : HO} (h : b ≠ a) : upd H a o b = H b := by unfold upd; rw [if_neg h]
theorem ne_of {H : Hp} {a b : Addr} {o u : HO} (h : H a = some o) (h' : H b = some u) (d : o ≠ u) : a ≠ b := by
  intro e; subst e; rw [h] at h'; exact d (Option.some.inj h')
theorem ne_of_none {H : Hp} {a b : Addr} {o : HO} (h : H a = some o) (h' : H b = none) : a ≠ b := by
  intro e; subst e; rw [h] at h'; cases h'

section
variable (P : Program) (w : World)
noncomputable def ObjOk (H : Hp) (h : Heap) (a : Addr) : HO → Prop
  | .lst xs => xs.length ≤ sizeLine ∧ ∃ (its : List Value) (n : Nat), Vals xs its ∧ h.get? a = some { cls := .type "list", data := .seq its.toArray n }
  | .tup xs => xs.length ≤ sizeLine ∧ ∃ its : List Value, Vals xs its ∧ IsTup h a its.toArray
  | .dK kvs => kvs.length ≤ sizeLine ∧ (a == sysModules) = false ∧ ∃ vs, KV kvs vs ∧ h.DictOf (mixKind P w) a vs
  | .dT kvs => kvs.length ≤ sizeLine ∧ (a == sysModules) = false ∧ ∃ xs : List (List Key × Addr × Value),
      Paired (fun (p : List Key × V) (q : List Key × Addr × Value) => p.1 = q.1 ∧ H q.2.1 = some (.tup (p.1.map kV)) ∧ RelV p.2 q.2.2) kvs xs ∧
      ∃ o es ep, h.get? a = some o ∧ o.ExactDict ∧ o.data = .dict es ep ∧ es.toList = xs.map (entryOfKey (tupleKind (mixKind P w))) ∧ (xs.map (·.1)).Nodup
  | .set S n => h.SetOf (intKind P w) a S n
  | .ins C dx fs => H dx = some (.own a) ∧ fs.length ≤ 1000 ∧ dx ≠ a ∧ h.get? a = some (PySem.W.instObj C dx) ∧
      ∃ mA, h.Ns1 dx mA ∧ (∀ f, RelO (fs.lookup f) (mA f)) ∧ PySem.Within mA (fs.map (·.1))
  | .own _ => ∃ o, h.get? a = some o
  | .xd fs => ∃ mA, h.Ns1 a mA ∧ ∀ f, RelO (fs.lookup f) (mA f)
  | .rng lo hi => ∃ t u v, h.get? a = some { cls := .type "range", data := .fields #[.int lo t, .int hi u, .int 1 v] }
  | .frz o u => h.get? a = some o ∧ ObjOk H h a u
  | .tbl ps => h.get? a = some { cls := .none, data := .fields ps }
  | .met f x => h.get? a = some (PySem.W.methodObj (.ref f) (.ref x))
  | .ext φ => φ h ∧ (∃ o, h.get? a = some o) ∧ ∀ h1 h2 : Heap, φ h1 → (∀ o, h1.get? a = some o → h2.get? a = some o) → φ h2
noncomputable def HOk (H : Hp) (h : Heap) : Prop := ∀ a o, H a = some o → ObjOk P w H h a o
end

section
variable {P : Program} {w : World} {H H' : Hp} {h h' : Heap} {a : Addr} {o : HO}
theorem ObjOk.lt (x : ObjOk P w H h a o) : a < h.objs.size := by
  cases o with
  | lst xs => obtain ⟨_, _, _, _, e⟩ := x; exact Heap.lt_size e
  | tup xs => obtain ⟨_, _, _, p⟩ := x; exact p.lt
  | dK kvs => obtain ⟨_, _, _, _, o, _, _, e, _⟩ := x; exact Heap.lt_size e
  | dT kvs => obtain ⟨_, _, _, _, o, _, _, e, _⟩ := x; exact Heap.lt_size e
  | set S n => obtain ⟨o, _, _, _, e, _⟩ := x; exact Heap.lt_size e
  | ins C dx fs => obtain ⟨_, _, _, e, _⟩ := x; exact Heap.lt_size e
  | own y => obtain ⟨_, e⟩ := x; exact Heap.lt_size e
  | xd fs => obtain ⟨_, ⟨_, _, _, e, _⟩, _⟩ := x; exact Heap.lt_size e
  | rng lo hi => obtain ⟨_, _, _, e⟩ := x; exact Heap.lt_size e
  | frz ob u => obtain ⟨e, _⟩ := x; exact Heap.lt_size e
  | tbl ps => exact Heap.lt_size (show h.get? a = some _ from x)
  | met f y => exact Heap.lt_size (show h.get? a = some _ from x)
  | ext φ => obtain ⟨_, ⟨_, e⟩, _⟩ := x; exact Heap.lt_size e
theorem Paired.mapP {α β : Type} {F G : α → β → Prop} : ∀ {l₁ : List α} {l₂ : List β}, Paired F l₁ l₂ → (∀ a b, F a b → G a b) → Paired G l₁ l₂
  | _, _, .nil, _ => .nil
  | _, _, .cons r t, f => .cons (f _ _ r) (Paired.mapP t f)
theorem ObjOk.stay (x : ObjOk P w H h a o) (k : ∀ b u, (b = a ∨ H b = some (.own a)) → h.get? b = some u → h'.get? b = some u)
    (ho : ∀ b, H b = some (.own a) → H' b = some (.own a)) (ht : ∀ b xs, H b = some (.tup xs) → H' b = some (.tup xs)) : ObjOk P w H' h' a o := by
  induction o with
  | lst xs => obtain ⟨z, its, n, r, e⟩ := x; exact ⟨z, its, n, r, k _ _ (.inl rfl) e⟩
  | tup xs => obtain ⟨z, its, r, ob, e, c⟩ := x; exact ⟨z, its, r, ob, k _ _ (.inl rfl) e, c⟩
  | dK kvs => obtain ⟨z, y, vs, r, ob, es, ep, e, c⟩ := x; exact ⟨z, y, vs, r, ob, es, ep, k _ _ (.inl rfl) e, c⟩
  | dT kvs =>
    obtain ⟨z, y, xs, r, ob, es, ep, e, c⟩ := x
    exact ⟨z, y, xs, Paired.mapP r fun p q z => ⟨z.1, ht _ _ z.2.1, z.2.2⟩, ob, es, ep, k _ _ (.inl rfl) e, c⟩
  | set S n => obtain ⟨ob, es, ep, t, e, c⟩ := x; exact ⟨ob, es, ep, t, k _ _ (.inl rfl) e, c⟩
  | ins C dx fs =>
    obtain ⟨d, z, ne, e, mA, ⟨od, es, ep, e2, c⟩, r⟩ := x
    exact ⟨ho _ d, z, ne, k _ _ (.inl rfl) e, mA, ⟨od, es, ep, k _ _ (.inr d) e2, c⟩, r⟩
  | own y => obtain ⟨ob, e⟩ := x; exact ⟨ob, k _ _ (.inl rfl) e⟩
  | xd fs => obtain ⟨mA, ⟨od, es, ep, e, c⟩, r⟩ := x; exact ⟨mA, ⟨od, es, ep, k _ _ (.inl rfl) e, c⟩, r⟩
  | rng lo hi => obtain ⟨t, u, v, e⟩ := x; exact ⟨t, u, v, k _ _ (.inl rfl) e⟩
  | frz ob u ih => obtain ⟨e, q⟩ := x; exact ⟨k _ _ (.inl rfl) e, ih q⟩
  | tbl ps =>
    have e : h.get? a = some { cls := .none, data := .fields ps } := x
    show h'.get? a = some { cls := .none, data := .fields ps }
    exact k a _ (.inl rfl) e
  | met f y =>
    have e : h.get? a = some (PySem.W.methodObj (.ref f) (.ref y)) := x
    show h'.get? a = some (PySem.W.methodObj (.ref f) (.ref y))
    exact k a _ (.inl rfl) e
  | ext φ => obtain ⟨p, ⟨o, e⟩, st⟩ := x; exact ⟨st _ _ p fun o q => k _ _ (.inl rfl) q, ⟨o, k _ _ (.inl rfl) e⟩, st⟩
theorem HOk.lt (x : HOk P w H h) (e : H a = some o) : a < h.objs.size := (x a o e).lt
theorem HOk.fresh (x : HOk P w H h) (e : h.objs.size ≤ a) : H a = none := by
  cases q : H a with
  | none => rfl
  | some u => exact absurd (Nat.lt_of_lt_of_le (x.lt q) e) (Nat.lt_irrefl _)
theorem HOk.kept (x : HOk P w H h) (k : ∀ b u, h.get? b = some u → h'.get? b = some u) : HOk P w H h' := fun a o e =>
  (x a o e).stay (fun b u _ q => k b u q) (fun _ q => q) fun _ _ q => q
theorem HOk.laid (x : HOk P w H h) (k : ∀ b u, h.get? b = some u → h'.get? b = some u) (hp : h.objs.size ≤ a) (new : ObjOk P w (upd H a o) h' a o) : HOk P w (upd H a o) h' := fun b u e => by
  have hn := x.fresh hp
  by_cases hb : b = a
  · subst hb; rw [upd_same] at e; cases e; exact new
  · rw [upd_ne hb] at e
    exact (x b u e).stay (fun c v _ q => k c v q) (fun c q => by rw [upd_ne (ne_of_none q hn)]; exact q) fun c xs q => by rw [upd_ne (ne_of_none q hn)]; exact q
end

noncomputable def Rd (H : Hp) (a : Addr) (u : HO) : Prop := H a = some u ∨ ∃ o, H a = some (.frz o u)
theorem Rd.ok {P : Program} {w : World} {H : Hp} {h : Heap} {a : Addr} {u : HO} (r : Rd H a u) (x : HOk P w H h) : ObjOk P w H h a u := by
  rcases r with r | ⟨o, r⟩
  · exact x a u r
  · obtain ⟨_, q⟩ := x a _ r
    exact q
noncomputable def Mut : Option HO → Prop
  | some (.lst _) => True
  | some (.dK _) => True
  | some (.dT _) => True
  | some (.set _ _) => True
  | some (.ins _ _ _) => True
  | some (.ext _) => True
  | _ => False
section
variable {P : Program} {w : World} {H : Hp} {h h' : Heap} {x e : Addr} {o' : HO}
theorem HOk.write (ok : HOk P w H h) (mu : Mut (H x)) (he : e = x ∨ H e = some (.own x)) (k : ∀ b u, b ≠ e → h.get? b = some u → h'.get? b = some u) (heo : ∃ u, h'.get? e = some u)
    (new : ObjOk P w (upd H x o') h' x o') : HOk P w (upd H x o') h' := fun b u q => by
  have nown : ∀ c y, H c = some (.own y) → c ≠ x := fun c y r z => by subst z; rw [r] at mu; exact mu
  have ntup : ∀ c xs, H c = some (.tup xs) → c ≠ x := fun c xs r z => by subst z; rw [r] at mu; exact mu
  by_cases hb : b = x
  · subst hb; rw [upd_same] at q; cases q; exact new
  · rw [upd_ne hb] at q
    by_cases hbe : b = e
    · have q' : H b = some (.own x) := by
        rcases he with z | z
        · exact absurd (hbe.trans z) hb
        · rw [hbe]; exact z
      rw [q] at q'; cases q'
      obtain ⟨v, hv⟩ := heo
      exact ⟨v, by rw [hbe]; exact hv⟩
    · refine (ok b u q).stay (fun c v hc r => k c v ?_ r) (fun c r => by rw [upd_ne (nown c b r)]; exact r) fun c xs r => by rw [upd_ne (ntup c xs r)]; exact r
      rcases hc with rfl | hc
      · exact hbe
      · rintro rfl
        rcases he with z | z
        · exact nown c b hc z
        · rw [hc] at z; cases z; exact hb rfl
end

structure Un (fs ex : List Addr) (H H' : Hp) (h h' : Heap) : Prop where
  keep : ∀ b o, h.get? b = some o → H b = none → b ∉ fs → b ∉ ex → h'.get? b = some o
  slot : ∀ b o, h.get? b = some o → H b = none → b ∈ fs → b ∉ ex → ∃ sl, h'.get? b = some { o with slots := sl }
  free : ∀ b o, h.get? b = some o → H b = none → b ∉ ex → H' b = none
  there : ∀ b o, h.get? b = some o → b ∉ ex → ∃ o', h'.get? b = some o'
  tups : ∀ b xs, H b = some (.tup xs) → H' b = some (.tup xs)
  frzs : ∀ b o u, H b = some (.frz o u) → H' b = some (.frz o u)
  tbls : ∀ b ps, H b = some (.tbl ps) → ∃ more, H' b = some (.tbl (ps ++ more))
section
variable {fs fs' ex ex' : List Addr} {H H1 H2 : Hp} {h h1 h2 h' : Heap} {a x e : Addr} {o : HO}
theorem Un.any (u : Un fs ex H H1 h h1) {b : Addr} {ob : Obj} (q : h.get? b = some ob) (n : H b = none) (hx : b ∉ ex) : ∃ sl, h1.get? b = some { ob with slots := sl } := by
  by_cases hb : b ∈ fs
  · exact u.slot b ob q n hb hx
  · exact ⟨ob.slots, u.keep b ob q n hb hx⟩
theorem Un.kept (k : ∀ b u, h.get? b = some u → h'.get? b = some u) : Un fs ex H H h h' :=
  ⟨fun b ob q _ _ _ => k b ob q, fun b ob q _ _ _ => ⟨ob.slots, k b ob q⟩, fun _ _ _ n _ => n, fun b ob q _ => ⟨ob, k b ob q⟩, fun _ _ q => q, fun _ _ _ q => q, fun _ ps q => ⟨#[], by rw [q]; simp⟩⟩
theorem Un.refl : Un fs ex H H h h := Un.kept fun _ _ q => q
theorem Un.laid (k : ∀ b u, h.get? b = some u → h'.get? b = some u) (hp : h.objs.size ≤ a) (hn : H a = none) : Un fs ex H (upd H a o) h h' where
  keep := fun b u q _ _ _ => k b u q
  slot := fun b u q _ _ _ => ⟨u.slots, k b u q⟩
  free := fun b u q n _ => by rw [upd_ne (Nat.ne_of_lt (Nat.lt_of_lt_of_le (Heap.lt_size q) hp))]; exact n
  there := fun b u q _ => ⟨u, k b u q⟩
  tups := fun b xs q => by rw [upd_ne (ne_of_none q hn)]; exact q
  frzs := fun b u xs q => by rw [upd_ne (ne_of_none q hn)]; exact q
  tbls := fun b ps q => ⟨#[], by rw [upd_ne (ne_of_none q hn), q]; simp⟩
theorem Un.write (mu : Mut (H x)) (he : e = x ∨ H e = some (.own x)) (k : ∀ b u, b ≠ e → h.get? b = some u → h'.get? b = some u) (heo : ∃ u, h'.get? e = some u) : Un fs ex H (upd H x o) h h' := by
  have hx : ∀ b, H b = none → b ≠ x := fun b n z => by subst z; rw [n] at mu; exact mu
  have hb : ∀ b, H b = none → b ≠ e := fun b n z => by
    subst z
    rcases he with r | r
    · exact hx b n r
    · rw [n] at r; cases r
  have hm : ∀ b u, H b = some u → ¬ Mut (some u) → b ≠ x := fun b u q nm z => by subst z; rw [q] at mu; exact nm mu
  refine ⟨fun b u q n _ _ => k b u (hb b n) q, fun b u q n _ _ => ⟨u.slots, k b u (hb b n) q⟩, fun b u q n _ => by rw [upd_ne (hx b n)]; exact n, fun b u q _ => ?_,
    fun b xs q => by rw [upd_ne (hm b _ q fun z => z)]; exact q, fun b u xs q => by rw [upd_ne (hm b _ q fun z => z)]; exact q, fun b ps q => ⟨#[], by rw [upd_ne (hm b _ q fun z => z), q]; simp⟩⟩
  by_cases hbe : b = e
  · subst hbe; exact heo
  · exact ⟨u, k b u hbe q⟩
end

noncomputable def trk (h : Heap) (H : Hp) : List Addr := (List.range h.objs.size).filter fun a => (H a).isSome
noncomputable def hidT (h : Heap) (H : Hp) : Heap := PySem.W.hideAll h (trk h H)
theorem hidT_size (h : Heap) (H : Hp) : (hidT h H).objs.size = h.objs.size := PySem.W.hideAll_size _ _
theorem hidT_get {h : Heap} {H : Hp} {b : Addr} {o : Obj} (e : h.get? b = some o) (n : H b = none) : (hidT h H).get? b = some o :=
  PySem.W.hideAll_get _ e fun hm => by
    have q : (H b).isSome = true := (List.mem_filter.mp hm).2
    rw [n] at q; simp at q
theorem of_hidT {h : Heap} {H : Hp} {b : Addr} {o : Obj} (e : (hidT h H).get? b = some o) : h.get? b = some o ∧ H b = none := by
  have e' : h.get? b = some o := PySem.W.of_hideAll (trk h H) e
  refine ⟨e', ?_⟩
  cases q : H b with
  | none => rfl
  | some x =>
    have hm : b ∈ trk h H := List.mem_filter.mpr ⟨List.mem_range.mpr (Heap.lt_size e'), by simp [q]⟩
    have z : (hidT h H).get? b = none := PySem.W.hideAll_none (trk h H) hm
    rw [z] at e; cases e

end L2

namespace L2
open PySem PySem.Spec PyProof.Rows

structure Mod (K : PySem.W.Frag) (mg : Str → Option Value) (base : Heap) : Prop where
  kin : K.In base
  glob : base.Ns mainGlobals mg
  blt : ∃ mb, base.Ns builtinsNs mb ∧ ∀ x : Str, x ≠ "__name__" → mb x = bootBuiltins x
  nolimit : base.NoLimit

structure Cx where
  prog : Program
  w : World
  K : PySem.W.Frag
  mg : Str → Option Value
  base : Heap
  A : Around
  N : List Str
  s₀ : Shared
  H₀ : Hp
  env : Env
  outer : List Env
  stack : List Env
  ex : List Addr
  fn : Str → Bool
  calm : Bool
  pn : List (Addr × Obj)
  xe : Value → Shared → Prop
noncomputable def frs (l : List Env) : List Addr := l.filterMap (·.frame)
noncomputable abbrev Cx.fs (X : Cx) : List Addr := frs X.outer

noncomputable def Vis (sc : Scope) (x : Str) : Prop := sc.names.lookup x = some .local ∨ sc.names.lookup x = some .cell ∨ sc.names.lookup x = some .free
noncomputable def Loc (sc : Scope) (x : Str) : Prop := sc.names.lookup x = some .local ∨ sc.names.lookup x = some .cell
noncomputable def Look (env : Env) (h : Heap) (m : Str → Option Value) (x : Str) (u : Value) : Prop :=
  (env.kindOf x = some .local ∧ m x = some u) ∨ ((env.kindOf x = some .cell ∨ env.kindOf x = some .free) ∧ ∃ c, env.cells.lookup x = some c ∧ h.IsCell c (some u))

structure Cx.Ok (X : Cx) : Prop where
  mod : Mod X.K X.mg X.base
  kind : X.env.scope.kind = .function
  glob : X.env.globals = mainGlobals
  blt : X.env.builtins = builtinsNs
  above : X.s₀.heap.objs.size ≤ X.env.locals
  inj : ∀ x y c, X.env.cells.lookup x = some c → X.env.cells.lookup y = some c → x = y
  has : ∀ x, (X.env.kindOf x = some .cell ∨ X.env.kindOf x = some .free) → ∃ c, X.env.cells.lookup x = some c
  cab : ∀ x c, X.fn x = true → X.env.cells.lookup x = some c → X.s₀.heap.objs.size ≤ c
  hd : X.calm = true → X.A.handled = none
  frames : X.A.frames = some X.stack
  stk : X.stack = X.outer ∨ (X.stack = X.env :: X.outer ∧ X.env.frame = some X.env.locals)
  exf : ∀ b ∈ X.ex, b ≠ X.env.locals ∧ ∀ x c, X.env.cells.lookup x = some c → c ≠ b
  bs : ∀ b o, X.base.get? b = some o → X.s₀.heap.get? b = some o ∧ X.H₀ b = none
  bsz : X.base.objs.size ≤ X.s₀.heap.objs.size
  noex : ∀ b o, X.base.get? b = some o → b ∉ X.ex
  exfs : ∀ b ∈ X.ex, b ∉ X.fs
  funs : X.s₀.heap.FunFrames X.base X.outer
  frf : ∀ b ∈ X.fs, X.H₀ b = none

structure Inv (X : Cx) (pins : List (Addr × Obj)) (σ : List (Option V)) (H : Hp) (s : Shared) : Prop where
  ok : X.Ok
  os : s.os = X.s₀.os
  bare : AllBare s.gens
  base : Un X.fs X.ex X.H₀ H X.s₀.heap s.heap
  loc : ∃ m, s.heap.Ns X.env.locals m ∧ ∀ (i : Nat) (x : Str) (v : V), X.N[i]? = some x → σ[i]? = some (some v) → Vis X.env.scope x → ∃ u, RelV v u ∧ Look X.env s.heap m x u
  cell : ∀ x c, X.env.cells.lookup x = some c → ∃ v, s.heap.IsCell c v
  free : H X.env.locals = none
  freeC : ∀ x c, X.env.cells.lookup x = some c → H c = none
  pin : ∀ p ∈ X.pn ++ pins, s.heap.get? p.1 = some p.2 ∧ H p.1 = none ∧ p.1 ≠ X.env.locals ∧ p.1 ∉ X.fs ∧ ∀ v, p.2.data ≠ .cell v
  hok : HOk X.prog X.w H s.heap
  len : σ.length = X.N.length

section
variable {X : Cx} {pins : List (Addr × Obj)} {σ : List (Option V)} {H H' : Hp} {s : Shared} {h' : Heap}

theorem Cx.Ok.nofr (ok : X.Ok) {b : Addr} {o : Obj} (e : X.base.get? b = some o) : b ∉ X.fs := fun hb => by
  have := (ok.funs.mem hb).1
  rw [e] at this; cases this
theorem Inv.bs (I : Inv X pins σ H s) : ∀ b o, X.base.get? b = some o → s.heap.get? b = some o ∧ H b = none := fun b o e =>
  ⟨I.base.keep b o (I.ok.bs b o e).1 (I.ok.bs b o e).2 (I.ok.nofr e) (I.ok.noex b o e), I.base.free b o (I.ok.bs b o e).1 (I.ok.bs b o e).2 (I.ok.noex b o e)⟩
theorem Inv.bk (I : Inv X pins σ H s) : ∀ b o, X.base.get? b = some o → s.heap.get? b = some o := fun b o e => (I.bs b o e).1
theorem Inv.mod (I : Inv X pins σ H s) : Mod X.K X.mg X.base := I.ok.mod
theorem Inv.kIn (I : Inv X pins σ H s) : X.K.In s.heap := I.ok.mod.kin.keeps I.bk
theorem Inv.fr (I : Inv X pins σ H s) : ∃ m, Fr X.base X.env.locals s.heap m :=
  let ⟨m, hn, _⟩ := I.loc
  ⟨m, hn, I.bk, Nat.le_trans I.ok.bsz I.ok.above⟩
theorem Inv.lt (I : Inv X pins σ H s) : X.env.locals < s.heap.objs.size := let ⟨_, hn, _⟩ := I.loc; hn.lt
theorem Inv.sz (I : Inv X pins σ H s) : X.s₀.heap.objs.size ≤ s.heap.objs.size := Nat.le_trans I.ok.above (Nat.le_of_lt I.lt)
theorem Inv.nofs (I : Inv X pins σ H s) {a : Addr} (h : s.heap.objs.size ≤ a) : a ∉ X.fs := fun hb => by
  obtain ⟨_, o, ho, _⟩ := I.ok.funs.mem hb
  exact absurd (Nat.lt_of_lt_of_le (Heap.lt_size ho) (Nat.le_trans I.sz h)) (Nat.lt_irrefl _)
theorem Inv.cne (I : Inv X pins σ H s) : ∀ x c, X.env.cells.lookup x = some c → c ≠ X.env.locals := fun x c e z => by
  obtain ⟨v, o, ho, hd⟩ := I.cell x c e
  obtain ⟨m, ⟨o', es, ep, ho', hd', _⟩, _⟩ := I.loc
  rw [z, ho'] at ho; cases ho; rw [hd'] at hd; cases hd
theorem Inv.funs (I : Inv X pins σ H s) : s.heap.FunFrames X.base X.outer := by
  have all : ∀ (l : List Env), (∀ b ∈ frs l, b ∈ X.fs) → X.s₀.heap.FunFrames X.base l → s.heap.FunFrames X.base l := by
    intro l
    induction l with
    | nil => intro _ _; trivial
    | cons env r ih =>
      intro hs hl
      obtain ⟨hk, ⟨L, o, hf, hn, ho, hd⟩, hr⟩ := hl
      have hL : L ∈ X.fs := hs L (by unfold frs; rw [List.filterMap_cons, hf]; exact List.mem_cons_self)
      obtain ⟨sl, e⟩ := I.base.slot L o ho (I.ok.frf L hL) hL fun z => I.ok.exfs L z hL
      exact ⟨hk, ⟨L, _, hf, hn, e, hd⟩, ih (fun b hb => hs b (by unfold frs; rw [List.filterMap_cons, hf]; exact List.mem_cons_of_mem _ hb)) hr⟩
  exact all X.outer (fun _ hb => hb) I.ok.funs

theorem Inv.stack (I : Inv X pins σ H s) : s.heap.FunFrames X.base X.stack := by
  rcases I.ok.stk with e | ⟨e, hf⟩
  · rw [e]; exact I.funs
  · rw [e]
    obtain ⟨m, hn, _⟩ := I.loc
    refine .cons (by rw [I.ok.kind]; decide) hf hn ?_ I.funs
    exact Heap.get?_none_of_le (Nat.le_trans I.ok.bsz I.ok.above)
theorem Inv.stkSub (I : Inv X pins σ H s) : ∀ b ∈ frs X.stack, b ∈ X.env.locals :: X.fs := fun b hb => by
  rcases I.ok.stk with e | ⟨e, hf⟩
  · rw [e] at hb; exact List.mem_cons_of_mem _ hb
  · rw [e] at hb
    unfold frs at hb
    rw [List.filterMap_cons, hf] at hb
    exact hb
theorem Inv.stkFree (I : Inv X pins σ H s) : ∀ b ∈ frs X.stack, H b = none := fun b hb => by
  rcases List.mem_cons.mp (I.stkSub b hb) with e | hb
  · rw [e]; exact I.free
  · obtain ⟨_, o, ho, _⟩ := I.ok.funs.mem hb
    exact I.base.free b o ho (I.ok.frf b hb) fun z => I.ok.exfs b z hb

theorem Inv.step {g' : Array GenState} {t' : Nat} {d' : Drawn} {ch : List Addr} (I : Inv X pins σ H s)
    (hch : ∀ b ∈ ch, (b ∈ X.ex ∨ X.s₀.heap.objs.size ≤ b) ∧ b ≠ X.env.locals ∧ (∀ x c, X.env.cells.lookup x = some c → c ≠ b) ∧ ∀ p ∈ X.pn ++ pins, p.1 ≠ b)
    (keep : ∀ b o, b ≠ X.env.locals → b ∉ X.fs → b ∉ ch → s.heap.get? b = some o → H b = none → h'.get? b = some o)
    (slot : ∀ b o, b ≠ X.env.locals → b ∈ X.fs → b ∉ ch → s.heap.get? b = some o → H b = none → ∃ sl, h'.get? b = some { o with slots := sl }) (free : ∀ b o, b ∉ ch → s.heap.get? b = some o → H b = none → H' b = none)
    (there : ∀ b o, b ∉ ch → s.heap.get? b = some o → ∃ o', h'.get? b = some o')
    (tups : ∀ b xs, H b = some (.tup xs) → H' b = some (.tup xs)) (frzs : ∀ b o u, H b = some (.frz o u) → H' b = some (.frz o u)) (tbls : ∀ b ps, H b = some (.tbl ps) → ∃ more, H' b = some (.tbl (ps ++ more)))
    (ns : ∀ m, s.heap.Ns X.env.locals m → h'.Ns X.env.locals m) (hok : HOk X.prog X.w H' h') (hg : AllBare g') :
    Inv X pins σ H' { s with heap := h', gens := g', drawn := d', toks := t' } := by
  have neL : ∀ b o, X.s₀.heap.get? b = some o → b ≠ X.env.locals := fun b o e => Nat.ne_of_lt (Nat.lt_of_lt_of_le (Heap.lt_size e) I.ok.above)
  have neC : ∀ b o, X.s₀.heap.get? b = some o → b ∉ X.ex → b ∉ ch := fun b o e hx hb => by
    rcases (hch b hb).1 with z | z
    · exact hx z
    · exact absurd (Nat.lt_of_lt_of_le (Heap.lt_size e) z) (Nat.lt_irrefl _)
  have cellK : ∀ x c, X.env.cells.lookup x = some c → ∀ v, s.heap.IsCell c v → h'.IsCell c v := fun x c e v ⟨o, ho, hd⟩ => by
    have nch : c ∉ ch := fun z => (hch c z).2.2.1 x c e rfl
    by_cases hc : c ∈ X.fs
    · obtain ⟨sl, q⟩ := slot c o (I.cne x c e) hc nch ho (I.freeC x c e)
      exact ⟨_, q, hd⟩
    · exact ⟨o, keep c o (I.cne x c e) hc nch ho (I.freeC x c e), hd⟩
  refine ⟨I.ok, I.os, hg, ⟨fun b o e n hb hx => ?_, fun b o e n hb hx => ?_, fun b o e n hx => ?_, fun b o e hx => ?_, fun b xs e => tups b xs (I.base.tups b xs e), fun b o xs e => frzs b o xs (I.base.frzs b o xs e), fun b ps e => ?_⟩, ?_, fun x c e => ?_, ?_, fun x c e => ?_, fun p hp => ?_, hok, I.len⟩
  · exact keep b o (neL b o e) hb (neC b o e hx) (I.base.keep b o e n hb hx) (I.base.free b o e n hx)
  · obtain ⟨sl, e1⟩ := I.base.slot b o e n hb hx
    obtain ⟨sl', e2⟩ := slot b _ (neL b o e) hb (neC b o e hx) e1 (I.base.free b o e n hx)
    exact ⟨sl', e2⟩
  · obtain ⟨o', e1⟩ := I.base.there b o e hx
    exact free b o' (neC b o e hx) e1 (I.base.free b o e n hx)
  · obtain ⟨o', e1⟩ := I.base.there b o e hx
    exact there b o' (neC b o e hx) e1
  · obtain ⟨m1, e1⟩ := I.base.tbls b ps e
    obtain ⟨m2, e2⟩ := tbls b _ e1
    exact ⟨m1 ++ m2, by rw [e2, Array.append_assoc]⟩
  · obtain ⟨m, hn, hl⟩ := I.loc
    refine ⟨m, ns m hn, fun i x v e1 e2 e3 => ?_⟩
    obtain ⟨u, r, l⟩ := hl i x v e1 e2 e3
    refine ⟨u, r, ?_⟩
    rcases l with l | ⟨k, c, e, z⟩
    · exact .inl l
    · exact .inr ⟨k, c, e, cellK x c e _ z⟩
  · obtain ⟨v, z⟩ := I.cell x c e
    exact ⟨v, cellK x c e v z⟩
  · obtain ⟨m, ⟨o, _, _, ho, _⟩, _⟩ := I.loc
    exact free _ o (fun z => (hch _ z).2.1 rfl) ho I.free
  · obtain ⟨v, o, ho, hd⟩ := I.cell x c e
    exact free c o (fun z => (hch c z).2.2.1 x c e rfl) ho (I.freeC x c e)
  · obtain ⟨e, n, ne, nf, d⟩ := I.pin p hp
    have nch : p.1 ∉ ch := fun z => (hch p.1 z).2.2.2 p hp rfl
    exact ⟨keep p.1 p.2 ne nf nch e n, free p.1 p.2 nch e n, ne, nf, d⟩
theorem Inv.un {t' : Nat} (I : Inv X pins σ H s) (u : Un X.fs [] H H' s.heap h') (hok : HOk X.prog X.w H' h') : Inv X pins σ H' { s with heap := h', toks := t' } := by
  obtain ⟨m, ⟨o, es, ep, ho, r⟩, _⟩ := id I.loc
  obtain ⟨sl, hL⟩ := u.any ho I.free (by simp)
  exact I.step (g' := s.gens) (d' := s.drawn) (ch := []) (fun _ z => nomatch z) (fun b o _ hb _ e n => u.keep b o e n hb (by simp)) (fun b o _ hb _ e n => u.slot b o e n hb (by simp)) (fun b o _ e n => u.free b o e n (by simp)) (fun b o _ e => u.there b o e (by simp)) u.tups u.frzs u.tbls (fun m' hm => by
    obtain ⟨o', es', ep', ho', r'⟩ := hm
    rw [ho] at ho'; cases ho'
    exact ⟨_, es', ep', hL, r'⟩) hok I.bare
theorem Inv.call {g' : Array GenState} {t' : Nat} {d' : Drawn} {ch : List Addr} (I : Inv X pins σ H s) (u : Un (frs X.stack) ch H H' s.heap h') (hok : HOk X.prog X.w H' h') (hg : AllBare g')
    (hch : ∀ b ∈ ch, (b ∈ X.ex ∨ X.s₀.heap.objs.size ≤ b) ∧ b ≠ X.env.locals ∧ (∀ x c, X.env.cells.lookup x = some c → c ≠ b) ∧ ∀ p ∈ X.pn ++ pins, p.1 ≠ b) :
    Inv X pins σ H' { s with heap := h', gens := g', drawn := d', toks := t' } := by
  obtain ⟨m, ⟨o, es, ep, ho, r⟩, _⟩ := id I.loc
  obtain ⟨sl, hL⟩ := u.any ho I.free fun z => (hch _ z).2.1 rfl
  exact I.step (ch := ch) hch (fun b o hL hb hc e n => u.keep b o e n (fun z => (List.mem_cons.mp (I.stkSub b z)).elim hL hb) hc) (fun b o _ _ hc e n => u.any e n hc) (fun b o hc e n => u.free b o e n hc) (fun b o hc e => u.there b o e hc) u.tups u.frzs u.tbls (fun m' hm => by
    obtain ⟨o', es', ep', ho', r'⟩ := hm
    rw [ho] at ho'; cases ho'
    exact ⟨_, es', ep', hL, r'⟩) hok hg
theorem Inv.turned {t' : Nat} {it : Addr} (I : Inv X pins σ H s) (k : ∀ b o, b ≠ it → s.heap.get? b = some o → h'.get? b = some o) (hn : H it = none) (hL : it ≠ X.env.locals)
    (h1 : it ∈ X.ex ∨ X.s₀.heap.objs.size ≤ it) (h2 : ∀ x c, X.env.cells.lookup x = some c → c ≠ it) (h3 : ∀ p ∈ X.pn ++ pins, p.1 ≠ it) : Inv X pins σ H { s with heap := h', toks := t' } := by
  have nit : ∀ b u, H b = some u → b ≠ it := fun b u e z => by rw [z, hn] at e; cases e
  refine I.step (g' := s.gens) (d' := s.drawn) (ch := [it]) (fun b hb => ?_) (fun b o _ _ hc e _ => k b o (fun z => hc (by simp [z])) e) (fun b o _ _ hc e _ => ⟨o.slots, k b o (fun z => hc (by simp [z])) e⟩) (fun _ _ _ _ n => n)
    (fun b o hc e => ⟨o, k b o (fun z => hc (by simp [z])) e⟩) (fun _ _ e => e) (fun _ _ _ e => e) (fun b ps e => ⟨#[], by rw [e]; simp⟩) (fun m hm => ?_) (fun b u e => ?_) I.bare
  · have e : b = it := by simpa using hb
    subst e
    exact ⟨h1, hL, h2, h3⟩
  · obtain ⟨o, es, ep, ho, r⟩ := hm
    exact ⟨o, es, ep, k _ o (Ne.symm hL) ho, r⟩
  · refine (I.hok b u e).stay (fun c v hc q => k c v ?_ q) (fun _ q => q) fun _ _ q => q
    rcases hc with z | z
    · rw [z]; exact nit b u e
    · exact nit c _ z
theorem Inv.tok (I : Inv X pins σ H s) (t : Nat) : Inv X pins σ H { s with toks := t } := I.un (h' := s.heap) (t' := t) Un.refl I.hok
theorem Inv.kept {t' : Nat} (I : Inv X pins σ H s) (k : ∀ b u, s.heap.get? b = some u → h'.get? b = some u) : Inv X pins σ H { s with heap := h', toks := t' } := I.un (Un.kept k) (I.hok.kept k)
theorem Inv.laid {a : Addr} {o : HO} {t' : Nat} (I : Inv X pins σ H s) (k : ∀ b u, s.heap.get? b = some u → h'.get? b = some u) (hp : s.heap.objs.size ≤ a) (new : ObjOk X.prog X.w (upd H a o) h' a o) :
    Inv X pins σ (upd H a o) { s with heap := h', toks := t' } := I.un (Un.laid k hp (I.hok.fresh hp)) (I.hok.laid k hp new)
theorem Inv.write {x e : Addr} {o : HO} {t' : Nat} (I : Inv X pins σ H s) (mu : Mut (H x)) (he : e = x ∨ H e = some (.own x)) (k : ∀ b u, b ≠ e → s.heap.get? b = some u → h'.get? b = some u) (heo : ∃ u, h'.get? e = some u)
    (new : ObjOk X.prog X.w (upd H x o) h' x o) : Inv X pins σ (upd H x o) { s with heap := h', toks := t' } := I.un (Un.write mu he k heo) (I.hok.write mu he k heo new)
theorem Inv.weak {σ' : List (Option V)} (I : Inv X pins σ H s) (hl : σ'.length = σ.length) (w : ∀ (i : Nat) v, σ'[i]? = some (some v) → σ[i]? = some (some v)) : Inv X pins σ' H s :=
  ⟨I.ok, I.os, I.bare, I.base, let ⟨m, hn, hl'⟩ := I.loc; ⟨m, hn, fun i x v e1 e2 e3 => hl' i x v e1 (w i v e2) e3⟩, I.cell, I.free, I.freeC, I.pin, I.hok, hl.trans I.len⟩
theorem Inv.pins_of {pins' : List (Addr × Obj)} (I : Inv X pins σ H s) (h : ∀ p ∈ pins', s.heap.get? p.1 = some p.2 ∧ H p.1 = none ∧ p.1 ≠ X.env.locals ∧ p.1 ∉ X.fs ∧ ∀ v, p.2.data ≠ .cell v) : Inv X pins' σ H s :=
  ⟨I.ok, I.os, I.bare, I.base, I.loc, I.cell, I.free, I.freeC, fun p hp => (List.mem_append.mp hp).elim (fun z => I.pin p (List.mem_append_left _ z)) (h p), I.hok, I.len⟩

theorem nodup_ix {N : List Str} (hN : N.Nodup) {i j : Nat} {x : Str} (a : N[i]? = some x) (b : N[j]? = some x) : i = j := by
  obtain ⟨h1, e1⟩ := List.getElem?_eq_some_iff.mp a
  obtain ⟨h2, e2⟩ := List.getElem?_eq_some_iff.mp b
  exact (List.getElem_inj hN).mp (e1.trans e2.symm)

theorem store_ok2 {M : Model} {A : Around} {E : Value → Shared → Prop} {i : Nat} {x : Str} {v : V} {u : Value} {Q : Unit → Shared → Prop} (I : Inv X pins σ H s) (hN : X.N.Nodup) (hi : X.N[i]? = some x) (hx : Loc X.env.scope x) (r : RelV v u)
    (h : ∀ s', Inv X pins (σ.set i (some v)) H s' → (∃ a, Heap.SameBut a s.heap s'.heap ∧ (a = X.env.locals ∨ X.env.cells.lookup x = some a)) → Q () s') (hf : X.fn x = true ∨ X.env.scope.names.lookup x = some .local := by first | exact .inl rfl | exact .inr rfl | assumption) : wpAny M A (storeName X.env x u) Q E s := by
  obtain ⟨m, hn, hl⟩ := id I.loc
  have hcls : (X.env.scope.kind == .class || (X.env.scope.kind == .module && X.env.locals != X.env.globals)) = false := by rw [I.ok.kind]; rfl
  have hiσ : i < σ.length := by rw [I.len]; exact (List.getElem?_eq_some_iff.mp hi).1
  have cne := I.cne
  have tracked : ∀ {a : Addr} {h' : Heap}, (∃ o, s.heap.get? a = some o ∧ H a = none) → Heap.SameBut a s.heap h' → HOk X.prog X.w H h' := fun {a h'} ha hs b ob e => by
    obtain ⟨_, _, hfree⟩ := ha
    refine (I.hok b ob e).stay (fun c w' hc q => (hs.2 c ?_).trans q) (fun _ q => q) fun _ _ q => q
    rintro rfl
    rcases hc with rfl | hc
    · rw [hfree] at e; cases e
    · rw [hfree] at hc; cases hc
  rcases hx with hk | hk
  · refine wpAny_storeName_local hk hn (fun h' hn' hs => ?_) hcls
    obtain ⟨oL, _, _, hoL, _⟩ := id hn
    refine h _ ⟨I.ok, I.os, I.bare, ⟨fun b o e n hb hx => ?_, fun b o e n hb hx => ?_, I.base.free, fun b o e hx => ?_, I.base.tups, I.base.frzs, I.base.tbls⟩, ⟨_, hn', fun j y v' e1 e2 e3 => ?_⟩, fun y c e => ?_, I.free, I.freeC, fun p hp => ?_, tracked ⟨oL, hoL, I.free⟩ hs, by simpa using I.len⟩ ⟨_, hs, .inl rfl⟩
    · exact (hs.2 b (Nat.ne_of_lt (Nat.lt_of_lt_of_le (Heap.lt_size e) I.ok.above))).trans (I.base.keep b o e n hb hx)
    · obtain ⟨sl, e1⟩ := I.base.slot b o e n hb hx
      exact ⟨sl, (hs.2 b (Nat.ne_of_lt (Nat.lt_of_lt_of_le (Heap.lt_size e) I.ok.above))).trans e1⟩
    · obtain ⟨o', e1⟩ := I.base.there b o e hx
      exact ⟨o', (hs.2 b (Nat.ne_of_lt (Nat.lt_of_lt_of_le (Heap.lt_size e) I.ok.above))).trans e1⟩
    · by_cases hj : j = i
      · subst hj
        rw [hi] at e1; cases e1
        rw [List.getElem?_set_self hiσ] at e2
        cases e2
        exact ⟨u, r, .inl ⟨hk, by simp⟩⟩
      · rw [List.getElem?_set_ne (Ne.symm hj)] at e2
        obtain ⟨u', r', q⟩ := hl j y v' e1 e2 e3
        refine ⟨u', r', ?_⟩
        rcases q with ⟨k, e⟩ | ⟨k, c, e, z⟩
        · refine .inl ⟨k, ?_⟩
          have : y ≠ x := fun e => hj (nodup_ix hN e1 (e ▸ hi))
          simp [this, e]
        · exact .inr ⟨k, c, e, z.sameBut hs (cne y c e)⟩
    · obtain ⟨w', z⟩ := I.cell y c e
      exact ⟨w', z.sameBut hs (cne y c e)⟩
    · obtain ⟨e, n, ne, nf, d⟩ := I.pin p hp
      exact ⟨(hs.2 p.1 ne).trans e, n, ne, nf, d⟩
  · have hfn : X.fn x = true := by
      rcases hf with z | z
      · exact z
      · rw [z] at hk; cases hk
    obtain ⟨c, hc⟩ := I.ok.has x (.inl hk)
    obtain ⟨w', z⟩ := I.cell x c hc
    refine wpAny_storeName_cell I.ok.kind hk hc z (fun h' hc' hs => ?_)
    obtain ⟨oc, hoc, hocd⟩ := id z
    refine h { s with heap := h' } ⟨I.ok, I.os, I.bare, ⟨fun b o e n hb hx => ?_, fun b o e n hb hx => ?_, I.base.free, fun b o e hx => ?_, I.base.tups, I.base.frzs, I.base.tbls⟩, ⟨m, hn.sameBut hs (Ne.symm (cne x c hc)), fun j y v' e1 e2 e3 => ?_⟩, fun y c' e => ?_, I.free, I.freeC, fun p hp => ?_, tracked ⟨oc, hoc, I.freeC x c hc⟩ hs, by simpa using I.len⟩ ⟨c, hs, .inr hc⟩
    · exact (hs.2 b (Nat.ne_of_lt (Nat.lt_of_lt_of_le (Heap.lt_size e) (I.ok.cab x c hfn hc)))).trans (I.base.keep b o e n hb hx)
    · obtain ⟨sl, e1⟩ := I.base.slot b o e n hb hx
      exact ⟨sl, (hs.2 b (Nat.ne_of_lt (Nat.lt_of_lt_of_le (Heap.lt_size e) (I.ok.cab x c hfn hc)))).trans e1⟩
    · obtain ⟨o', e1⟩ := I.base.there b o e hx
      exact ⟨o', (hs.2 b (Nat.ne_of_lt (Nat.lt_of_lt_of_le (Heap.lt_size e) (I.ok.cab x c hfn hc)))).trans e1⟩
    · by_cases hj : j = i
      · subst hj
        rw [hi] at e1; cases e1
        rw [List.getElem?_set_self hiσ] at e2
        cases e2
        exact ⟨u, r, .inr ⟨.inl hk, c, hc, hc'⟩⟩
      · rw [List.getElem?_set_ne (Ne.symm hj)] at e2
        obtain ⟨u', r', q⟩ := hl j y v' e1 e2 e3
        refine ⟨u', r', ?_⟩
        rcases q with q | ⟨k, c', e, z'⟩
        · exact .inl q
        · refine .inr ⟨k, c', e, z'.sameBut hs ?_⟩
          rintro rfl
          exact hj (nodup_ix hN e1 (I.ok.inj _ _ _ e hc ▸ hi))
    · by_cases hcc : c' = c
      · subst hcc; exact ⟨_, hc'⟩
      · obtain ⟨w2, z2⟩ := I.cell y c' e
        exact ⟨w2, z2.sameBut hs hcc⟩
    · obtain ⟨e, n, ne, nf, d⟩ := I.pin p hp
      refine ⟨(hs.2 p.1 ?_).trans e, n, ne, nf, d⟩
      intro q
      rw [q, hoc] at e
      have q' : oc = p.2 := Option.some.inj e
      exact d w' (by rw [← q']; exact hocd)
theorem store_ok {M : Model} {A : Around} {E : Value → Shared → Prop} {i : Nat} {x : Str} {v : V} {u : Value} {Q : Unit → Shared → Prop} (I : Inv X pins σ H s) (hN : X.N.Nodup) (hi : X.N[i]? = some x) (hx : Loc X.env.scope x) (r : RelV v u)
    (h : ∀ s', Inv X pins (σ.set i (some v)) H s' → Q () s') (hf : X.fn x = true ∨ X.env.scope.names.lookup x = some .local := by first | exact .inl rfl | exact .inr rfl | assumption) : wpAny M A (storeName X.env x u) Q E s :=
  store_ok2 I hN hi hx r (fun s' I' _ => h s' I') hf
theorem Inv.call' {s' : Shared} {ch : List Addr} (I : Inv X pins σ H s) (ho : s'.os = s.os) (u : Un (frs X.stack) ch H H' s.heap s'.heap) (hok : HOk X.prog X.w H' s'.heap) (hg : AllBare s'.gens)
    (hch : ∀ b ∈ ch, (b ∈ X.ex ∨ X.s₀.heap.objs.size ≤ b) ∧ b ≠ X.env.locals ∧ (∀ x c, X.env.cells.lookup x = some c → c ≠ b) ∧ ∀ p ∈ X.pn ++ pins, p.1 ≠ b) : Inv X pins σ H' s' := by
  obtain ⟨h', g', d', t', o'⟩ := s'
  have e : o' = s.os := ho
  subst e
  exact I.call (g' := g') (t' := t') (d' := d') u hok hg hch
end

noncomputable abbrev XK := Value → Option Addr → Hp → Prop
noncomputable abbrev St := List (Option V)
noncomputable abbrev VK := V → Hp → Prop
noncomputable abbrev TE := St → Hp → VK → Prop
noncomputable abbrev TT := St → Hp → (Bool → Hp → Prop) → Prop
noncomputable abbrev TA := St → Hp → (List V → Hp → Prop) → Prop
structure Ends where
  nx : St → Hp → Prop
  rt : VK
  bk : St → Hp → Prop := fun _ _ => False
  ct : St → Hp → Prop := fun _ _ => False
noncomputable abbrev TS := Ends → St → Hp → Prop

noncomputable def EP (X : Cx) (pins : List (Addr × Obj)) (σ : St) (Q : VK) (u : Value) (s' : Shared) : Prop := ∃ v H', Inv X pins σ H' s' ∧ RelV v u ∧ Q v H'
noncomputable def TP (X : Cx) (pins : List (Addr × Obj)) (σ : St) (Q : Bool → Hp → Prop) (b : Bool) (s' : Shared) : Prop := ∃ H', Inv X pins σ H' s' ∧ Q b H'
noncomputable def AP (X : Cx) (pins : List (Addr × Obj)) (σ : St) (Q : List V → Hp → Prop) (us : List Value) (s' : Shared) : Prop := ∃ vs H', Inv X pins σ H' s' ∧ Vals vs us ∧ Q vs H'
noncomputable def SP (X : Cx) (pins : List (Addr × Obj)) (D : Ends) (f : Flow) (s' : Shared) : Prop :=
  match f with
  | .next => ∃ σ' H', Inv X pins σ' H' s' ∧ D.nx σ' H'
  | .brk => ∃ σ' H', Inv X pins σ' H' s' ∧ D.bk σ' H'
  | .cont => ∃ σ' H', Inv X pins σ' H' s' ∧ D.ct σ' H'
  | .ret u => ∃ v σ' H', Inv X pins σ' H' s' ∧ RelV v u ∧ D.rt v H'

noncomputable def PE (X : Cx) (e : Expr) (t : TE) : Prop :=
  ∀ (pins : List (Addr × Obj)) (s : Shared) (σ : St) (H : Hp) (Q : VK), Inv X pins σ H s → t σ H Q → wpAny (model X.prog X.w) X.A (eval e X.env) (EP X pins σ Q) X.xe s
noncomputable def PT (X : Cx) (e : Expr) (t : TT) : Prop :=
  ∀ (pins : List (Addr × Obj)) (s : Shared) (σ : St) (H : Hp) (Q : Bool → Hp → Prop), Inv X pins σ H s → t σ H Q → wpAny (model X.prog X.w) X.A (isTrue e X.env (eval e X.env)) (TP X pins σ Q) X.xe s
noncomputable def PW (X : Cx) (e : Expr) (t : TT) : Prop :=
  ∀ (whole : Sem Value) (pins : List (Addr × Obj)) (s : Shared) (σ : St) (H : Hp) (Q : Bool → Hp → Prop), Inv X pins σ H s → t σ H Q → wpAny (model X.prog X.w) X.A (isTrue e X.env whole) (TP X pins σ Q) X.xe s
theorem PW.pt {X : Cx} {e : Expr} {t : TT} (h : PW X e t) : PT X e t := h _
noncomputable def PA (X : Cx) (es : List Expr) (t : TA) : Prop :=
  ∀ (pos : Pos) (pins : List (Addr × Obj)) (s : Shared) (σ : St) (H : Hp) (Q : List V → Hp → Prop), Inv X pins σ H s → t σ H Q → wpAny (model X.prog X.w) X.A (spliced (backTo pos (starEach es X.env))) (AP X pins σ Q) X.xe s
noncomputable def PS (X : Cx) (st : Stmt) (t : TS) : Prop :=
  ∀ (pins : List (Addr × Obj)) (s : Shared) (σ : St) (H : Hp) (D : Ends), Inv X pins σ H s → t D σ H → wpAny (model X.prog X.w) X.A (exec st X.env) (SP X pins D) X.xe s
noncomputable def PSs (X : Cx) (st : List Stmt) (t : TS) : Prop :=
  ∀ (pins : List (Addr × Obj)) (s : Shared) (σ : St) (H : Hp) (D : Ends), Inv X pins σ H s → t D σ H → wpAny (model X.prog X.w) X.A (execs st X.env) (SP X pins D) X.xe s
theorem thn {α : Type} {t : Sem α} {Q Q' : α → Shared → Prop} {M : Model} {A : Around} {E : Value → Shared → Prop} {s : Shared} (h : wpAny M A t Q E s) (hQ : ∀ a s, Q a s → Q' a s) : wpAny M A t Q' E s := wpAny_mono h hQ fun _ _ x => x
end L2

namespace L2
open PySem PySem.Spec PyProof.Rows
section
variable {X : Cx}

theorem bin {a b : Expr} {ta tb : TE} (ha : PE X a ta) (hb : PE X b tb) {pins : List (Addr × Obj)} {s : Shared} {σ : St} {H : Hp} {R : V → V → Hp → Prop} (I : Inv X pins σ H s) (h : ta σ H fun x H1 => tb σ H1 fun y H2 => R x y H2)
    {α : Type} {Q : α → Shared → Prop} {f : Value → Value → Sem α}
    (hf : ∀ v u s2 x y H2, Inv X pins σ H2 s2 → RelV x v → RelV y u → R x y H2 → wpAny (model X.prog X.w) X.A (f v u) Q X.xe s2) :
    wpAny (model X.prog X.w) X.A (eval a X.env) (fun v s₁ => wpAny (model X.prog X.w) X.A (eval b X.env) (fun u s₂ => wpAny (model X.prog X.w) X.A (f v u) Q X.xe s₂) X.xe s₁) X.xe s := by
  refine thn (ha pins s σ H _ I h) fun v s1 ⟨x, H1, I1, r1, q1⟩ => ?_
  refine thn (hb pins s1 σ H1 _ I1 q1) fun u s2 ⟨y, H2, I2, r2, q2⟩ => ?_
  exact hf v u s2 x y H2 I2 r1 r2 q2

noncomputable def tVar (i : Nat) : TE := fun σ H Q => ∃ v, σ[i]? = some (some v) ∧ Q v H
noncomputable def tC (v : V) : TE := fun _ H Q => Q v H
theorem pe_var {i : Nat} {x : Str} {pos : Pos} (hN : X.N[i]? = some x) (hv : Vis X.env.scope x) (hd : (x == ("__debug__" : Str)) = false := by decide) (hcd : (x == ("__classdict__" : Str)) = false := by decide) : PE X (.Name x pos) (tVar i) := by
  intro pins s σ H Q I h
  obtain ⟨v, e, h⟩ := h
  obtain ⟨m, hn, hl⟩ := I.loc
  obtain ⟨u, r, l⟩ := hl i x v hN e hv
  have fin : EP X pins σ Q u s := ⟨v, H, I, r, h⟩
  rcases l with ⟨hk, hm⟩ | ⟨hk, c, hc, hcell⟩
  · exact wpAny_Name (wpAny_loadName_local I.ok.kind hk hn hm fin) hd
  · rcases hk with hk | hk
    · exact wpAny_Name (wpAny_loadName_cell I.ok.kind hk hc hcell fin) hd
    · exact wpAny_Name (wpAny_loadName_free I.ok.kind hk hc hcell fin hcd) hd
theorem pe_int {i j pos} : PE X (.Constant (.int i) j pos) (tC (.int i)) := fun _ _ _ H _ I h => wpAny_Constant_int ⟨.int i, H, I.tok _, ⟨_, rfl⟩, h⟩
theorem pe_bl {b j pos} : PE X (.Constant (.bool b) j pos) (tC (.bl b)) := fun _ _ _ H _ I h => Constant_bool ⟨.bl b, H, I, rfl, h⟩
theorem pe_non {j pos} : PE X (.Constant .none j pos) (tC .non) := fun _ _ _ H _ I h => Constant_none ⟨.non, H, I, rfl, h⟩
theorem pe_str {x j pos} : PE X (.Constant (.str x) j pos) (tC (.str x)) := fun _ _ _ H _ I h => Calls.Constant_str ⟨.str x, H, I.tok _, ⟨_, rfl⟩, h⟩

noncomputable def Gl (X : Cx) (x : Str) : Prop := X.env.kindOf x = some .globalImplicit
theorem ld_glob {E : Value → Shared → Prop} {pins : List (Addr × Obj)} {s : Shared} {σ : St} {H : Hp} {x : Str} {u : Value} {pos : Pos} {Q : Value → Shared → Prop} (I : Inv X pins σ H s) (hg : Gl X x) (hm : X.mg x = some u) (h : Q u s)
    (hd : (x == ("__debug__" : Str)) = false := by decide) : wpAny (model X.prog X.w) X.A (eval (.Name x pos) X.env) Q E s :=
  Calls.Name_function_global I.ok.kind hg (Calls.loadGlobal_global (by rw [I.ok.glob]; exact I.mod.glob.keeps I.bk) hm h) hd
theorem ld_blt {E : Value → Shared → Prop} {pins : List (Addr × Obj)} {s : Shared} {σ : St} {H : Hp} {x : Str} {u : Value} {pos : Pos} {Q : Value → Shared → Prop} (I : Inv X pins σ H s) (hg : Gl X x) (hm : X.mg x = none) (hv : bootBuiltins x = some u) (h : Q u s)
    (hn : x ≠ "__name__" := by decide) (hd : (x == ("__debug__" : Str)) = false := by decide) : wpAny (model X.prog X.w) X.A (eval (.Name x pos) X.env) Q E s := by
  obtain ⟨mb, h1, h2⟩ := I.mod.blt
  exact Calls.Name_function_global I.ok.kind hg (Calls.loadGlobal_builtin (by rw [I.ok.glob]; exact I.mod.glob.keeps I.bk) hm (by rw [I.ok.blt]; exact h1.keeps I.bk) ((h2 x hn).trans hv) h) hd
theorem pe_glob {x : Str} {v : V} {u : Value} {pos : Pos} (hg : Gl X x) (hm : X.mg x = some u) (r : RelV v u) (hd : (x == ("__debug__" : Str)) = false := by decide) : PE X (.Name x pos) (tC v) :=
  fun _ _ _ H _ I h => ld_glob I hg hm ⟨v, H, I, r, h⟩ hd
theorem pe_bltn {x : Str} {v : V} {u : Value} {pos : Pos} (hg : Gl X x) (hm : X.mg x = none) (hv : bootBuiltins x = some u) (r : RelV v u) (hn : x ≠ "__name__" := by decide) (hd : (x == ("__debug__" : Str)) = false := by decide) : PE X (.Name x pos) (tC v) :=
  fun _ _ _ H _ I h => ld_blt I hg hm hv ⟨v, H, I, r, h⟩ hn hd

variable {a b : Expr} {ta tb : TE} {pos : Pos}

noncomputable def PC (X : Cx) (op : CmpOp) (a b : Expr) (t : TE) : Prop :=
  ∀ (pins : List (Addr × Obj)) (s : Shared) (σ : St) (H : Hp) (Q : VK), Inv X pins σ H s → t σ H Q →
    wpAny (model X.prog X.w) X.A (eval a X.env) (fun v s₁ => wpAny (model X.prog X.w) X.A (eval b X.env) (fun u s₂ => wpAny (model X.prog X.w) X.A (compareOp op v u) (EP X pins σ Q) X.xe s₂) X.xe s₁) X.xe s
noncomputable def tB (t : TE) : TT := fun σ H Q => t σ H fun x H1 => ∃ c, x = .bl c ∧ Q c H1
theorem pt_cmp {op : CmpOp} {t : TE} (h : PC X op a b t) (h1 : behindInMarks op b = false := by first | exact nobehind _ (by decide) (by decide) | rfl) : PT X (.Compare a [op] [b] pos) (tB t) := by
  intro pins s σ H Q I hw
  refine wpAny_isTrue_Compare1 (thn (h pins s σ H _ I hw) fun v s1 h1 => thn h1 fun u s2 h2 => thn h2 fun c s3 ⟨x, H1, I1, r1, q1⟩ => ?_) h1
  obtain ⟨d, rfl, q⟩ := q1
  cases r1
  exact wpAny_truthy_bool ⟨H1, I1, q⟩
theorem pt_val {e : Expr} {t : TE} (h : PE X e t) (he : ∀ whole, isTrue e X.env whole = (do let v ← whole; standAt e.pos; holding [v] (truthy v)) := by intro _; rfl) : PT X e (tB t) := by
  intro pins s σ H Q I hw
  refine isTrue_plain (thn (h pins s σ H _ I hw) fun v s1 ⟨x, H1, I1, r1, q1⟩ => ?_) (he _)
  obtain ⟨d, rfl, q⟩ := q1
  cases r1
  exact wpAny_truthy_bool ⟨H1, I1, q⟩

variable {tA tB' : TT} {rest : List Expr}
noncomputable def tAnd (t u : TT) : TT := fun σ H Q => t σ H fun c H1 => if c = true then u σ H1 Q else Q false H1
noncomputable def tOr (t u : TT) : TT := fun σ H Q => t σ H fun c H1 => if c = true then Q true H1 else u σ H1 Q
noncomputable def tNot (t : TT) : TT := fun σ H Q => t σ H fun c H1 => Q (!c) H1
theorem pw_and1 (ha : PT X a tA) : PW X (.BoolOp .And [a] pos) tA := by
  intro wh pins s σ H Q I h
  refine isTrue_and (thn (ha pins s σ H Q I h) fun c s1 e => ?_)
  cases c with
  | true => exact isTrue_and_nil e
  | false => exact e
theorem pw_or1 (ha : PT X a tA) : PW X (.BoolOp .Or [a] pos) tA := by
  intro wh pins s σ H Q I h
  refine isTrue_or (thn (ha pins s σ H Q I h) fun c s1 e => ?_)
  cases c with
  | false => exact isTrue_or_nil e
  | true => exact e
theorem pw_and (ha : PT X a tA) (hb : PW X (.BoolOp .And (b :: rest) pos) tB') : PW X (.BoolOp .And (a :: b :: rest) pos) (tAnd tA tB') := by
  intro wh pins s σ H Q I h
  refine isTrue_and (thn (ha pins s σ H _ I h) fun c s1 ⟨H1, I1, q1⟩ => ?_)
  cases c with
  | true => exact hb wh pins s1 σ H1 Q I1 q1
  | false => exact ⟨H1, I1, q1⟩
theorem pw_or (ha : PT X a tA) (hb : PW X (.BoolOp .Or (b :: rest) pos) tB') : PW X (.BoolOp .Or (a :: b :: rest) pos) (tOr tA tB') := by
  intro wh pins s σ H Q I h
  refine isTrue_or (thn (ha pins s σ H _ I h) fun c s1 ⟨H1, I1, q1⟩ => ?_)
  cases c with
  | true => exact ⟨H1, I1, q1⟩
  | false => exact hb wh pins s1 σ H1 Q I1 q1
theorem pt_not (ha : PT X a tA) : PT X (.UnaryOp .Not a pos) (tNot tA) := by
  intro pins s σ H Q I h
  exact isTrue_not (ha pins s σ H (fun c H1 => Q (!c) H1) I h)
noncomputable def tAndV (ta tb : TE) : TE := fun σ H Q => ta σ H fun x H1 => ∃ c, x = .bl c ∧ if c = true then tb σ H1 Q else Q (.bl false) H1
noncomputable def tNotV (ta : TE) : TE := fun σ H Q => ta σ H fun x H1 => ∃ c, x = .bl c ∧ Q (.bl (!c)) H1
theorem pe_one {op} {t : TE} (h : PE X a t) : PE X (.BoolOp op [a] pos) t := fun pins s σ H Q I hw => BoolOp_one (h pins s σ H Q I hw)
theorem pe_and (ha : PE X a ta) (hb : PE X (.BoolOp .And (b :: rest) pos) tb) : PE X (.BoolOp .And (a :: b :: rest) pos) (tAndV ta tb) := by
  intro pins s σ H Q I h
  refine BoolOp_and (thn (ha pins s σ H _ I h) fun v s1 ⟨x, H1, I1, r1, q1⟩ => ?_)
  obtain ⟨c, rfl, q1⟩ := q1
  cases r1
  refine wpAny_truthy_bool ?_
  cases c with
  | true => exact hb pins s1 σ H1 Q I1 q1
  | false => exact ⟨.bl false, H1, I1, rfl, q1⟩
theorem pe_not (ha : PE X a ta) : PE X (.UnaryOp .Not a pos) (tNotV ta) := by
  intro pins s σ H Q I h
  refine UnaryOp_ (thn (ha pins s σ H _ I h) fun v s1 ⟨x, H1, I1, r1, q1⟩ => ?_)
  obtain ⟨c, rfl, q1⟩ := q1
  cases r1
  exact not_of (wpAny_truthy_bool ⟨.bl (!c), H1, I1, rfl, q1⟩)
end
end L2

namespace L2
open PySem PySem.Spec PyProof.Rows

noncomputable def SqL (K : PySem.W.Frag) (H : Hp) (a : Addr) (xs : List V) : Prop :=
  Rd H a (.lst xs) ∨
    ∃ (o : Obj) (its : Array Value) (n : Nat), K.lookup a = some o ∧ o.cls = .type "list" ∧ o.dict = none ∧ o.data = .seq its n ∧ its.size ≤ sizeLine ∧ Vals xs its.toList
noncomputable def SqT (K : PySem.W.Frag) (H : Hp) (a : Addr) (xs : List V) : Prop :=
  Rd H a (.tup xs) ∨
    ∃ (o : Obj) (its : Array Value) (n : Nat), K.lookup a = some o ∧ o.cls = .type "tuple" ∧ o.data = .seq its n ∧ its.size ≤ sizeLine ∧ Vals xs its.toList
noncomputable def absV : Value → Option V
  | .none => some .non
  | .bool b => some (.bl b)
  | .int i _ => some (.int i)
  | .str x _ => some (.str x)
  | .bytes b _ => some (.byt b)
  | .float b _ => some (.flt b)
  | .ref a => some (.ref a)
  | .type n => some (.ty n)
  | _ => none
theorem RelV.abs {x : V} {u : Value} (r : RelV x u) : absV u = some x := by
  cases x with
  | non => cases r; rfl
  | bl _ => cases r; rfl
  | int _ => obtain ⟨t, rfl⟩ := r; rfl
  | str _ => obtain ⟨t, rfl⟩ := r; rfl
  | byt _ => obtain ⟨t, rfl⟩ := r; rfl
  | flt _ => obtain ⟨t, rfl⟩ := r; rfl
  | ref _ => cases r; rfl
  | ty _ => cases r; rfl
theorem RelV.inj {x y : V} {u : Value} (r : RelV x u) (q : RelV y u) : x = y := Option.some.inj (r.abs.symm.trans q.abs)
theorem Vals.inj : ∀ {xs ys : List V} {us : List Value}, Vals xs us → Vals ys us → xs = ys
  | _, _, _, .nil, .nil => rfl
  | _, _, _, .cons r t, .cons r' t' => by rw [r.inj r', Vals.inj t t']
section
variable {X : Cx} {pins : List (Addr × Obj)} {σ : St} {H : Hp} {s : Shared} {a : Addr} {xs ys : List V}
theorem SqL.of {K : PySem.W.Frag} (h : H a = some (.lst xs)) : SqL K H a xs := .inl (.inl h)
theorem SqT.of {K : PySem.W.Frag} (h : H a = some (.tup xs)) : SqT K H a xs := .inl (.inl h)
theorem Inv.list (I : Inv X pins σ H s) (h : SqL X.K H a xs) : ∃ its : List Value, Vals xs its ∧ PlainL s.heap a its.toArray ∧ xs.length ≤ sizeLine := by
  rcases h with h | ⟨o, its, n, hk, hc, hd, hs, hz, r⟩
  · obtain ⟨z, its, n, r, e⟩ := h.ok I.hok
    exact ⟨its, r, ⟨_, n, e, rfl, rfl, rfl⟩, z⟩
  · refine ⟨its.toList, r, ⟨o, n, I.kIn a o hk, hc, hd, by simpa using hs⟩, ?_⟩
    have e := r.length
    simp only [Array.length_toList] at e
    (first | lia | omega)
theorem Inv.tuple (I : Inv X pins σ H s) (h : SqT X.K H a xs) : ∃ its : List Value, Vals xs its ∧ IsTup s.heap a its.toArray ∧ xs.length ≤ sizeLine := by
  rcases h with h | ⟨o, its, n, hk, hc, hs, hz, r⟩
  · obtain ⟨z, its, r, p⟩ := h.ok I.hok
    exact ⟨its, r, p, z⟩
  · refine ⟨its.toList, r, ⟨o, I.kIn a o hk, hc, n, by simpa using hs⟩, ?_⟩
    have e := r.length
    simp only [Array.length_toList] at e
    (first | lia | omega)
theorem Inv.list_inj (I : Inv X pins σ H s) (h : SqL X.K H a xs) (h' : SqL X.K H a ys) : xs = ys := by
  obtain ⟨its, r, ⟨o, n, e, _, _, d⟩, _⟩ := I.list h
  obtain ⟨its', r', ⟨o', n', e', _, _, d'⟩, _⟩ := I.list h'
  rw [e] at e'; cases e'
  rw [d] at d'
  injection d' with d1 _
  have : its = its' := by simpa using congrArg Array.toList d1
  subst this
  exact r.inj r'
end

noncomputable abbrev Cx.wish (X : Cx) (E : Value → Shared → Prop) : Cx := { X with xe := E }
noncomputable abbrev Cx.nox (X : Cx) : Cx := X.wish fun _ _ => False
theorem Cx.Ok.wish {X : Cx} (ok : X.Ok) (E : Value → Shared → Prop) : (X.wish E).Ok :=
  ⟨ok.mod, ok.kind, ok.glob, ok.blt, ok.above, ok.inj, ok.has, ok.cab, ok.hd, ok.frames, ok.stk, ok.exf, ok.bs, ok.bsz, ok.noex, ok.exfs, ok.funs, ok.frf⟩
theorem Cx.Ok.unwish {X : Cx} {E : Value → Shared → Prop} (ok : (X.wish E).Ok) : X.Ok :=
  ⟨ok.mod, ok.kind, ok.glob, ok.blt, ok.above, ok.inj, ok.has, ok.cab, ok.hd, ok.frames, ok.stk, ok.exf, ok.bs, ok.bsz, ok.noex, ok.exfs, ok.funs, ok.frf⟩
section
variable {X : Cx} {pins : List (Addr × Obj)} {σ : St} {H : Hp} {s : Shared} {E : Value → Shared → Prop}
theorem Inv.wish (I : Inv X pins σ H s) (E : Value → Shared → Prop) : Inv (X.wish E) pins σ H s := ⟨I.ok.wish E, I.os, I.bare, I.base, I.loc, I.cell, I.free, I.freeC, I.pin, I.hok, I.len⟩
theorem Inv.unwish (I : Inv (X.wish E) pins σ H s) : Inv X pins σ H s := ⟨I.ok.unwish, I.os, I.bare, I.base, I.loc, I.cell, I.free, I.freeC, I.pin, I.hok, I.len⟩
theorem SP.unwish {D : Ends} {f : Flow} {s' : Shared} (h : SP (X.wish E) pins D f s') : SP X pins D f s' := by
  cases f with
  | next => obtain ⟨σ', H', I, q⟩ := h; exact ⟨σ', H', I.unwish, q⟩
  | brk => obtain ⟨σ', H', I, q⟩ := h; exact ⟨σ', H', I.unwish, q⟩
  | cont => obtain ⟨σ', H', I, q⟩ := h; exact ⟨σ', H', I.unwish, q⟩
  | ret u => obtain ⟨v, σ', H', I, r, q⟩ := h; exact ⟨v, σ', H', I.unwish, r, q⟩
theorem PSs.nox {st : List Stmt} {t : TS} (h : PSs X.nox st t) : PSs X st t := fun pins s σ H D I hw =>
  wpAny_mono (h pins s σ H D (I.wish _) hw) (fun _ _ q => q.unwish) fun _ _ z => False.elim z
end

section
variable {X : Cx} {st : Stmt} {rest : List Stmt} {t u : TS} {e : Expr} {te : TE} {pos : Pos}
noncomputable def tNext : TS := fun D σ H => D.nx σ H
noncomputable def tSeq (t u : TS) : TS := fun D σ H => t { D with nx := u D } σ H
theorem pss_nil : PSs X [] tNext := fun _ _ σ H _ I h => wpAny_execs_nil ⟨σ, H, I, h⟩
theorem pss_cons (h1 : PS X st t) (h2 : PSs X rest u) : PSs X (st :: rest) (tSeq t u) := by
  intro pins s σ H D I h
  refine wpAny_execs_cons (thn (h1 pins s σ H { D with nx := u D } I h) fun f s1 q => ?_)
  cases f with
  | next =>
    obtain ⟨σ', H', I', q⟩ := q
    exact h2 pins s1 σ' H' D I' q
  | ret v => exact q
  | brk => exact q
  | cont => exact q
theorem pss_one (h1 : PS X st t) : PSs X [st] t := by
  intro pins s σ H D I h
  refine wpAny_execs_cons (thn (h1 pins s σ H D I h) fun f s1 q => ?_)
  cases f with
  | next => exact wpAny_execs_nil q
  | ret v => exact q
  | brk => exact q
  | cont => exact q
theorem Inv.quiet {pins : List (Addr × Obj)} {σ : St} {H : Hp} {s : Shared} (I : Inv X pins σ H s) : interactive X.env = false := by simp [interactive, I.ok.kind]
noncomputable def tDrop (te : TE) : TS := fun D σ H => te σ H fun _ H1 => D.nx σ H1
theorem ps_expr (he : PE X e te) (hs : swapsWith e none pos.line X.env = pure false := by rfl) : PS X (.Expr e pos) (tDrop te) := by
  intro pins s σ H D I h
  exact wpAny_Expr_any (thn (he pins s σ H _ I h) fun v s1 ⟨x, H1, I1, r1, q1⟩ => ⟨σ, H1, I1, q1⟩) I.quiet hs
noncomputable def tRet (te : TE) : TS := fun D σ H => te σ H D.rt
theorem ps_ret (he : PE X e te) : PS X (.Return (some e) pos) (tRet te) := by
  intro pins s σ H D I h
  exact wpAny_Return_some (thn (he pins s σ H _ I h) fun v s1 ⟨x, H1, I1, r1, q1⟩ => ⟨x, σ, H1, I1, r1, q1⟩)
noncomputable def tIfS (c : TT) (t u : TS) : TS := fun D σ H => c σ H fun b H1 => if b = true then t D σ H1 else u D σ H1
theorem ps_if {c : Expr} {a b : List Stmt} {tc : TT} (hc : PT X c tc) (ha : PSs X a t) (hb : PSs X b u) : PS X (.If c a b pos) (tIfS tc t u) := by
  intro pins s σ H D I h
  refine wpAny_If (thn (hc pins s σ H _ I h) fun d s1 ⟨H1, I1, q1⟩ => ?_)
  cases d with
  | true => exact ha pins s1 σ H1 D I1 q1
  | false => exact hb pins s1 σ H1 D I1 q1
noncomputable def tNever : TS := fun _ _ _ => False
theorem pss_never {sts : List Stmt} : PSs X sts tNever := fun _ _ _ _ _ _ h => h.elim
end

noncomputable abbrev TG := V → St → Hp → (St → Hp → Prop) → Prop
noncomputable abbrev TGs := List V → St → Hp → (St → Hp → Prop) → Prop
noncomputable def PG (X : Cx) (target : Expr) (t : TG) : Prop :=
  ∀ (pins : List (Addr × Obj)) (s : Shared) (σ : St) (H : Hp) (v : V) (u : Value) (Q : St → Hp → Prop), Inv X pins σ H s → RelV v u → t v σ H Q →
    wpAny (model X.prog X.w) X.A (assign target X.env u) (fun _ s' => ∃ σ' H', Inv X pins σ' H' s' ∧ Q σ' H') X.xe s
noncomputable def PGs (X : Cx) (ts : List Expr) (t : TGs) : Prop :=
  ∀ (pins : List (Addr × Obj)) (s : Shared) (σ : St) (H : Hp) (vs : List V) (us : List Value) (Q : St → Hp → Prop), Inv X pins σ H s → Vals vs us → t vs σ H Q →
    wpAny (model X.prog X.w) X.A (assignInOrder ((assignEach ts X.env).map (·.2)) us) (fun _ s' => ∃ σ' H', Inv X pins σ' H' s' ∧ Q σ' H') X.xe s
noncomputable abbrev TSet := V → V → V → Hp → (Hp → Prop) → Prop
noncomputable def PSet (X : Cx) (t : TSet) : Prop :=
  ∀ (pins : List (Addr × Obj)) (s : Shared) (σ : St) (H : Hp) (o i v : V) (ov iv u : Value) (Q : Hp → Prop), Inv X pins σ H s → RelV o ov → RelV i iv → RelV v u → t o i v H Q →
    wpAny (model X.prog X.w) X.A (setItem ov iv u) (fun _ s' => ∃ H', Inv X pins σ H' s' ∧ Q H') X.xe s
section
variable {X : Cx} {pos : Pos}
noncomputable def gName (i : Nat) : TG := fun v σ H Q => Q (σ.set i (some v)) H
theorem pg_name {i : Nat} {x : Str} (hN : X.N.Nodup) (hi : X.N[i]? = some x) (hx : Loc X.env.scope x) (hf : X.fn x = true ∨ X.env.scope.names.lookup x = some .local := by first | exact .inl rfl | exact .inr rfl | assumption) : PG X (.Name x pos) (gName i) := by
  intro pins s σ H v u Q I r h
  exact wpAny_assign_Name (store_ok I hN hi hx r (fun s' I' => ⟨_, H, I', h⟩) hf)
noncomputable def gNil : TGs := fun vs σ H Q => vs = [] ∧ Q σ H
noncomputable def gCons (t : TG) (u : TGs) : TGs := fun vs σ H Q => ∃ v r, vs = v :: r ∧ t v σ H fun σ' H' => u r σ' H' Q
theorem pgs_nil : PGs X [] gNil := by
  intro pins s σ H vs us Q I r h
  obtain ⟨e, h⟩ := h
  subst e
  cases r
  exact assignInOrder_nil ⟨σ, H, I, h⟩
theorem pgs_cons {e : Expr} {es : List Expr} {t : TG} {u : TGs} (h1 : PG X e t) (h2 : PGs X es u)
    (hs : (assignEach (e :: es) X.env).map (·.2) = assign e X.env :: (assignEach es X.env).map (·.2) := by rfl) : PGs X (e :: es) (gCons t u) := by
  intro pins s σ H vs us Q I r h
  obtain ⟨v, vr, e1, h⟩ := h
  subst e1
  cases r with
  | cons r rr =>
    rw [hs]
    refine assignInOrder_cons (thn (h1 pins s σ H _ _ _ I r h) fun _ s1 ⟨σ1, H1, I1, q1⟩ => ?_)
    exact h2 pins s1 σ1 H1 _ _ Q I1 rr q1
noncomputable def gTup (K : PySem.W.Frag) (n : Nat) (t : TGs) : TG := fun v σ H Q => ∃ a xs, v = .ref a ∧ SqT K H a xs ∧ xs.length = n ∧ t xs σ H Q
theorem pg_tup {es : List Expr} {k : Nat} {t : TGs} {n : Nat} (hc : X.calm = true) (h : PGs X es t)
    (hn : (assignEach es X.env).length = n := by rfl) (hst : (assignEach es X.env).findIdx? (·.1) = none := by rfl) : PG X (.Tuple es k pos) (gTup X.K n t) := by
  intro pins s σ H v u Q I r hw
  obtain ⟨a, xs, e1, hq, hl, hw⟩ := hw
  subst e1
  cases r
  obtain ⟨its, rv, ht, hz⟩ := I.tuple hq
  refine assign_Tuple_tuple (I.ok.hd hc) ht (by simp [hn, ← hl, rv.length]) hst fun h' hx => ?_
  have I1 : Inv X pins σ H { s with heap := h' } := I.kept (t' := s.toks) fun b o e => hx b o (Nat.ne_of_lt (Heap.lt_size e)) e
  exact h pins _ σ H xs _ Q I1 (by simpa using rv) hw
noncomputable def gSub (to ti : TE) (t : TSet) : TG := fun v σ H Q => to σ H fun o H1 => ti σ H1 fun i H2 => t o i v H2 fun H3 => Q σ H3
theorem pg_sub {o i : Expr} {to ti : TE} {t : TSet} (ho : PE X o to) (hi : PE X i ti) (hs : PSet X t)
    (ha : ∀ v, assign (.Subscript o i pos) X.env v = (do
      let ov ← holding [v] (eval o X.env)
      let iv ← holding [v, ov] (eval i X.env)
      standAt pos
      holding [v, ov, iv] (setItem ov iv v)
      release [v, ov, iv] []) := by intro _; rfl) : PG X (.Subscript o i pos) (gSub to ti t) := by
  intro pins s σ H v u Q I r h
  rw [ha]
  refine wpAny_bind (wpAny_holding (thn (ho pins s σ H _ I h) fun ov s1 ⟨x, H1, I1, r1, q1⟩ => ?_))
  refine wpAny_bind (wpAny_holding (thn (hi pins s1 σ H1 _ I1 q1) fun iv s2 ⟨y, H2, I2, r2, q2⟩ => ?_))
  refine wpAny_bind (wpAny_standAt (wpAny_bind (wpAny_holding (thn (hs pins s2 σ H2 x y v ov iv u _ I2 r1 r2 r q2) fun _ s3 ⟨H3, I3, q3⟩ => ?_))))
  exact wpAny_release ⟨σ, H3, I3, q3⟩
noncomputable def tAsg (te : TE) (g : TG) : TS := fun D σ H => te σ H fun x H1 => g x σ H1 D.nx
theorem ps_asg {tg e : Expr} {te : TE} {g : TG} (he : PE X e te) (hg : PG X tg g) (hs : swapsWithSole [tg] e pos.line X.env = pure false := by rfl) (hw : swappedStores [tg] e X.env = pure none := by rfl)
    (h1 : (assignEach [tg] X.env).map (·.2) = [assign tg X.env] := by rfl) : PS X (.Assign [tg] e pos) (tAsg te g) := by
  intro pins s σ H D I h
  refine wpAny_Assign_stores (thn (he pins s σ H _ I h) fun v s1 ⟨x, H1, I1, r1, q1⟩ => ?_) hs hw
  rw [h1]
  exact thn (hg pins s1 σ H1 x v _ I1 r1 q1) fun _ s2 q => q
theorem ps_set {i : Nat} {x : Str} {e : Expr} {te : TE} {pos' : Pos} (hN : X.N.Nodup) (hi : X.N[i]? = some x) (hx : Loc X.env.scope x) (he : PE X e te) (hs : swapsWith e (some (.Name x pos')) pos.line X.env = pure false := by rfl) (hf : X.fn x = true ∨ X.env.scope.names.lookup x = some .local := by first | exact .inl rfl | exact .inr rfl | assumption) :
    PS X (.Assign [.Name x pos'] e pos) (tAsg te (gName i)) := by
  intro pins s σ H D I h
  refine wpAny_Assign_Name (thn (he pins s σ H _ I h) fun v s1 ⟨y, H1, I1, r1, q1⟩ => ?_) hs
  exact store_ok I1 hN hi hx r1 (fun s2 I2 => ⟨_, H1, I2, q1⟩) hf
end

section
variable {X : Cx} {pos : Pos}
noncomputable def tWhile (c : TT) (tb : TS) : TS := fun D σ H => ∃ W : Nat → St → Hp → Prop, (∃ m, W m σ H) ∧ ∀ m σ H, W m σ H →
  c σ H fun b H1 => if b = true then ∃ N : St → Hp → Prop, (∀ σ' H', N σ' H' → ∃ m', m' < m ∧ W m' σ' H') ∧ tb { D with nx := N, ct := N, bk := D.nx } σ H1 else D.nx σ H1
theorem ps_while {c : Expr} {body : List Stmt} {tc : TT} {tb : TS} (hp : PassesOwn (model X.prog X.w) X.A X.env X.xe) (hc : PT X c tc) (hb : PSs X body tb) : PS X (.While c body [] pos) (tWhile tc tb) := by
  intro pins s σ H D I h
  obtain ⟨W, ⟨m0, w0⟩, turn⟩ := h
  refine wpAny_While (codeAny_whileLoop (fun n s' => ∃ σ' H', Inv X pins σ' H' s' ∧ W n σ' H') ?_ m0 ⟨σ, H, I, w0⟩)
  rintro n s1 ⟨σ1, H1, I1, w1⟩
  refine wpAny_passesOwn hp (thn (hc pins s1 σ1 H1 _ I1 (turn n σ1 H1 w1)) fun b s2 ⟨H2, I2, q2⟩ => ?_)
  cases b with
  | true =>
    obtain ⟨N, hN, q2⟩ := q2
    rw [if_pos rfl]
    refine wpAny_passesOwn hp (thn (hb pins s2 σ1 H2 _ I2 q2) fun f s3 q3 => ?_)
    cases f with
    | next =>
      obtain ⟨σ3, H3, I3, n3⟩ := q3
      obtain ⟨m', hm, w3⟩ := hN σ3 H3 n3
      exact ⟨m', hm, σ3, H3, I3, w3⟩
    | cont =>
      obtain ⟨σ3, H3, I3, n3⟩ := q3
      obtain ⟨m', hm, w3⟩ := hN σ3 H3 n3
      exact ⟨m', hm, σ3, H3, I3, w3⟩
    | brk => exact q3
    | ret v => exact q3
  | false =>
    rw [if_neg Bool.false_ne_true]
    exact wpAny_execs_nil ⟨σ1, H2, I2, q2⟩
end

structure It where
  go : Nat → Hp → Prop
  yld : Nat → Hp → V → Hp → Prop
  stop : Nat → Hp → Prop
noncomputable def FpOk (X : Cx) (pins : List (Addr × Obj)) (H : Hp) (b : Addr) : Prop :=
  H b = none ∧ b ≠ X.env.locals ∧ b ∉ X.fs ∧ (b ∈ X.ex ∨ X.s₀.heap.objs.size ≤ b) ∧ (∀ x c, X.env.cells.lookup x = some c → c ≠ b) ∧ ∀ p ∈ X.pn ++ pins, p.1 ≠ b
theorem Inv.fpOk {X : Cx} {pins : List (Addr × Obj)} {σ : St} {H H' : Hp} {s : Shared} {b : Addr} (I : Inv X pins σ H s) (hb : s.heap.objs.size ≤ b) (hn : H' b = none) : FpOk X pins H' b := by
  refine ⟨hn, Nat.ne_of_gt (Nat.lt_of_lt_of_le I.lt hb), I.nofs hb, .inr (Nat.le_trans I.sz hb), fun x c e z => ?_, fun p hp z => ?_⟩
  · obtain ⟨v, q⟩ := I.cell x c e
    exact absurd (Nat.lt_of_lt_of_le q.lt (by rw [z]; exact hb)) (Nat.lt_irrefl _)
  · exact absurd (Nat.lt_of_lt_of_le (Heap.lt_size (I.pin p hp).1) (by rw [z]; exact hb)) (Nat.lt_irrefl _)
structure Turn (P : Program) (w : World) (K : PySem.W.Frag) (tg : Expr) (J : It) (fp : List Addr) (it : Addr) (tn : Nat → Heap → Prop) : Prop where
  mem : it ∈ fp
  obj : ∀ i h, tn i h → ∀ b ∈ fp, ∃ o, h.get? b = some o ∧ ∀ v, o.data ≠ .cell v
  keep : ∀ i h h', tn i h → (∀ b ∈ fp, ∀ o, h.get? b = some o → h'.get? b = some o) → tn i h'
  item : ∀ (X : Cx), X.prog = P → X.w = w → X.K = K → X.calm = true → ∀ (i : Nat) (pins : List (Addr × Obj)) (s : Shared) (σ : St) (H : Hp) (E : Value → Shared → Prop), Inv X pins σ H s → (∀ b ∈ fp, FpOk X pins H b) → tn i s.heap → J.go i H →
    wpAny (model P w) X.A (pyNext (.ref it)) (fun r s1 => ∃ u, r = some u ∧
      wpAny (model P w) X.A (letOwnedTupleGo tg (.ref it) u) (fun _ s2 => ∃ x H', Inv X pins σ H' s2 ∧ RelV x u ∧ J.yld i H x H' ∧ tn (i + 1) s2.heap ∧ ∀ b ∈ fp, H' b = none) E s1) E s
  done : ∀ (X : Cx), X.prog = P → X.w = w → X.K = K → X.calm = true → ∀ (i : Nat) (pins : List (Addr × Obj)) (s : Shared) (σ : St) (H : Hp) (E : Value → Shared → Prop), Inv X pins σ H s → (∀ b ∈ fp, FpOk X pins H b) → tn i s.heap → J.stop i H →
    wpAny (model P w) X.A (pyNext (.ref it)) (fun r s1 => r = none ∧ Inv X pins σ H s1) E s
  self : ∀ (A : Around) (i : Nat) (s : Shared) (Q : Value → Shared → Prop) (E : Value → Shared → Prop), tn i s.heap → Q (.ref it) s → wpAny (model P w) A (pyIter (.ref it)) Q E s
noncomputable abbrev TI := St → Hp → (It → Hp → Prop) → Prop
noncomputable def PIE (X : Cx) (pins : List (Addr × Obj)) (σ : St) (tg : Expr) (R : It → Hp → Prop) (itv : Value) (s2 : Shared) : Prop :=
  ∃ (it : Addr) (fp : List Addr) (tn : Nat → Heap → Prop) (J : It) (H' : Hp), itv = .ref it ∧ Inv X pins σ H' s2 ∧ Turn X.prog X.w X.K tg J fp it tn ∧ tn 0 s2.heap ∧ (∀ b ∈ fp, FpOk X pins H' b) ∧ R J H'
noncomputable def PI (X : Cx) (tg iter : Expr) (wi : TI) : Prop :=
  ∀ (pins : List (Addr × Obj)) (s : Shared) (σ : St) (H : Hp) (R : It → Hp → Prop), Inv X pins σ H s → wi σ H R →
    wpAny (model X.prog X.w) X.A (eval iter X.env) (fun v s1 => wpAny (model X.prog X.w) X.A (pyIter v) (PIE X pins σ tg R) X.xe s1) X.xe s

theorem go_of {M : Model} {A : Around} {E : Value → Shared → Prop} {s : Shared} {tg : Expr} {it : Addr} {u : Value} {o : Obj} {n : String} {vs : Array Value} {Q : Unit → Shared → Prop} (ho : s.heap.get? it = some o) (hc : o.cls = .type n) (hd : o.data = .fields vs)
    (hn : ["enumerate", "zip", "dict_itemiterator", "dict_reverseitemiterator", "odict_iterator", "itertools.zip_longest", "itertools.pairwise"].contains n = false) (hQ : Q () s) : wpAny M A (letOwnedTupleGo tg (.ref it) u) Q E s := by
  unfold letOwnedTupleGo
  cases tg <;> first
    | exact wpAny_pure hQ
    | (cases u <;> first
        | exact wpAny_pure hQ
        | (refine wpAny_bind (wpAny_load ho ?_)
           rw [hc, hd]
           show wpAny M A (if (["enumerate", "zip", "dict_itemiterator", "dict_reverseitemiterator", "odict_iterator", "itertools.zip_longest", "itertools.pairwise"].contains n && vs[0]? == some (rawInt _)) = true then _ else _) Q E s
           rw [if_neg (by intro h; rw [hn, Bool.false_and] at h; cases h)]
           exact wpAny_pure hQ))

noncomputable def Itl (K : PySem.W.Frag) (a : Addr) : It :=
  ⟨fun i H => ∃ xs x, SqL K H a xs ∧ xs[i]? = some x, fun i H x H' => H' = H ∧ ∀ xs, SqL K H a xs → xs[i]? = some x, fun i H => ∃ xs, SqL K H a xs ∧ xs.length ≤ i⟩
noncomputable def Itr (lo : Int) (n : Nat) : It := ⟨fun i _ => i < n, fun i H x H' => H' = H ∧ x = .int (lo + i), fun i _ => n ≤ i⟩
theorem turn_list {P : Program} {w : World} {K : PySem.W.Frag} {tg : Expr} (a it : Addr) : Turn P w K tg (Itl K a) [it] it (fun i h => h.IsListIter it a i) where
  mem := by simp
  obj := fun i h st b hb => by
    have e : b = it := by simpa using hb
    subst e
    obtain ⟨o, e, c, d⟩ := st
    exact ⟨o, e, fun v z => by rw [d] at z; cases z⟩
  keep := fun i h h' st k => st.at fun o e => k it (by simp) o e
  item := by
    intro X hP hw hK hc i pins s σ H E I hf st hg
    subst hP hw hK
    obtain ⟨xs, x, hq, hx⟩ := hg
    obtain ⟨its, rv, p, hz⟩ := I.list hq
    obtain ⟨u, hu, ru⟩ := rv.get hx
    obtain ⟨f0, f1, f2, f3, f4, f5⟩ := hf it (by simp)
    refine wpAny_pyNext_list_item st p.isList (x := u) (by simpa using hu) fun h' st' sb => ?_
    have I1 : Inv X pins σ H { s with heap := h' } := I.turned (t' := s.toks) (fun b o hb e => (sb.2 b hb).trans e) f0 f1 f3 f4 f5
    obtain ⟨o, e, c, d⟩ := id st'
    exact ⟨u, rfl, go_of (s := { s with heap := h' }) e c d (by decide) ⟨x, H, I1, ru, ⟨rfl, fun ys hy => by rw [I.list_inj hy hq]; exact hx⟩, st', fun b hb => (hf b hb).1⟩⟩
  done := by
    intro X hP hw hK hc i pins s σ H E I hf st hg
    subst hP hw hK
    obtain ⟨xs, hq, hx⟩ := hg
    obtain ⟨its, rv, p, hz⟩ := I.list hq
    obtain ⟨f0, f1, f2, f3, f4, f5⟩ := hf it (by simp)
    have hl := rv.length
    exact wpAny_pyNext_list_end (I.ok.hd hc) st p.isList (by simp; (first | lia | omega)) fun h' eb => ⟨rfl, I.turned (t' := s.toks) (fun b o hb e => eb b o hb e) f0 f1 f3 f4 f5⟩
  self := fun _ _ _ _ _ st h => wpAny_pyIter_listiter st h
theorem turn_range {P : Program} {w : World} {K : PySem.W.Frag} {tg : Expr} (it : Addr) (lo : Int) (n : Nat) : Turn P w K tg (Itr lo n) [it] it (fun i h => IsRangeIter h it (lo + (i : Nat) * 1) ((n : Int) - (i : Nat)) 1) where
  mem := by simp
  obj := fun i h st b hb => by
    have e : b = it := by simpa using hb
    subst e
    exact ⟨_, st, fun v z => by
      have z' : Data.fields _ = Data.cell v := z
      cases z'⟩
  keep := fun i h h' st k => k it (by simp) _ st
  item := by
    intro X hP hw hK hc i pins s σ H E I hf st hg
    subst hP hw hK
    obtain ⟨f0, f1, f2, f3, f4, f5⟩ := hf it (by simp)
    have W := Walks.range (prog := X.prog) (w := X.w) (I.ok.hd hc) it lo 1 n
    refine W.item i s _ _ hg st fun v h' tk hv st' kk => ?_
    obtain ⟨t, rfl⟩ := hv
    have I1 : Inv X pins σ H { s with heap := h', toks := tk } := I.turned (fun b o hb e => kk b o (by simpa using hb) e) f0 f1 f3 f4 f5
    refine ⟨_, rfl, go_of (s := { s with heap := h', toks := tk }) (n := "range_iterator") st' rfl rfl (by decide) ⟨.int (lo + i), H, I1, ⟨t, ?_⟩, ⟨rfl, rfl⟩, st', fun b hb => (hf b hb).1⟩⟩
    rw [Int.mul_one]
  done := by
    intro X hP hw hK hc i pins s σ H E I hf st hg
    subst hP hw hK
    obtain ⟨f0, f1, f2, f3, f4, f5⟩ := hf it (by simp)
    exact wpAny_pyNext_range_end (I.ok.hd hc) st (by have : n ≤ i := hg; (first | lia | omega)) fun h' eb => ⟨rfl, I.turned (t' := s.toks) (fun b o hb e => eb b o hb e) f0 f1 f3 f4 f5⟩
  self := fun _ _ _ _ _ st h => wpAny_pyIter_rangeiter st h
end L2

namespace L2
open PySem PySem.Spec PyProof.Rows
section
variable {X : Cx} {tg : Expr}
noncomputable def iList (K : PySem.W.Frag) (tl : TE) : TI := fun σ H R => tl σ H fun x H1 => ∃ a, x = .ref a ∧ (∃ xs, SqL K H1 a xs) ∧ R (Itl K a) H1
theorem pi_list {l : Expr} {tl : TE} (hl : PE X l tl) : PI X tg l (iList X.K tl) := by
  intro pins s σ H R I h
  refine thn (hl pins s σ H _ I h) fun v s1 ⟨x, H1, I1, r1, q1⟩ => ?_
  obtain ⟨a, e, ⟨xs, hq⟩, q⟩ := q1
  subst e
  cases r1
  obtain ⟨its, rv, p, hz⟩ := I1.list hq
  refine wpAny_pyIter_list p.isList ?_
  refine ⟨s1.heap.objs.size, [s1.heap.objs.size], _, _, H1, rfl, I1.kept (t' := s1.toks) fun b o e => Heap.get?_push_of_some _ e, turn_list a _, ⟨_, Heap.get?_push_size _ rfl, rfl, rfl⟩, fun b hb => ?_, q⟩
  have e : b = s1.heap.objs.size := by simpa using hb
  subst e
  exact I1.fpOk (Nat.le_refl _) (I1.hok.fresh (Nat.le_refl _))
theorem range_it {pins : List (Addr × Obj)} {σ : St} {H : Hp} {s : Shared} {R : It → Hp → Prop} {E : Value → Shared → Prop} {lo hi : Int} {t u v : Tok} {tk : Nat} (I : Inv X pins σ H s) (h1 : -(2 ^ 62) ≤ lo) (h2 : lo < 2 ^ 62) (h3 : -(2 ^ 62) ≤ hi) (h4 : hi < 2 ^ 62)
    (q : R (Itr lo (hi - lo).toNat) H) : wpAny (model X.prog X.w) X.A (pyIter (.ref s.heap.objs.size)) (PIE X pins σ tg R) E { s with heap := s.heap.push { cls := .type "range", data := .fields #[.int lo t, .int hi u, .int 1 v] }, toks := tk } := by
  refine wpAny_pyIter_range (IsRange.new ..) (small_one h1 h2 h3 h4) ?_
  have I1 : Inv X pins σ H { s with heap := s.heap.push { cls := .type "range", data := .fields #[.int lo t, .int hi u, .int 1 v] }, toks := tk } := I.kept fun b o e => Heap.get?_push_of_some _ e
  refine ⟨(s.heap.push { cls := .type "range", data := .fields #[.int lo t, .int hi u, .int 1 v] }).objs.size, [(s.heap.push { cls := .type "range", data := .fields #[.int lo t, .int hi u, .int 1 v] }).objs.size], _, _, H, rfl,
    I1.kept (t' := tk) fun b o e => Heap.get?_push_of_some _ e, turn_range _ lo (hi - lo).toNat, ?_, fun b hb => ?_, q⟩
  · have e1 : lo + ((0 : Nat) : Int) * 1 = lo := by simp
    have e2 : (((hi - lo).toNat : Nat) : Int) - ((0 : Nat) : Int) = Builtin.Range.rangeSize lo hi 1 := by rw [rangeSize_one]; split <;> (first | lia | omega)
    show IsRangeIter _ _ (lo + ((0 : Nat) : Int) * 1) ((((hi - lo).toNat : Nat) : Int) - ((0 : Nat) : Int)) 1
    rw [e1, e2]
    exact Heap.get?_push_size _ rfl
  · have e : b = (s.heap.push { cls := .type "range", data := .fields #[.int lo t, .int hi u, .int 1 v] }).objs.size := by simpa using hb
    subst e
    exact I1.fpOk (Nat.le_refl _) (I1.hok.fresh (Nat.le_refl _))
noncomputable def iRng1 (ta : TA) : TI := fun σ H R => ta σ H fun vs H1 => ∃ j : Int, vs = [.int j] ∧ -(2 ^ 62) ≤ j ∧ j < 2 ^ 62 ∧ R (Itr 0 j.toNat) H1
theorem pi_range1 {a : Expr} {ta : TA} {p pos : Pos} (hg : Gl X "range") (hm : X.mg "range" = none) (ha : PA X [a] ta) (hs : starEach [a] X.env = [(false, eval a X.env)] := by rfl) : PI X tg (.Call (.Name "range" p) [a] [] pos) (iRng1 ta) := by
  intro pins s σ H R I h
  refine Call_ (ld_blt I hg hm boot_range (PyProof.Rows.callWith_type1 (thn (ha pos pins s σ H _ I h) fun us s1 ⟨vs, H1, I1, r1, q1⟩ => ?_) hs rfl))
  obtain ⟨j, e, q1, q2, q⟩ := q1
  subst e
  cases r1 with
  | cons r rr =>
    cases rr
    obtain ⟨t, rfl⟩ := r
    exact call_range_1 (range_it I1 (by (first | lia | omega)) (by (first | lia | omega)) q1 q2 (by simpa using q))

noncomputable def tFor (wi : TI) (g : TG) (tb : TS) : TS := fun D σ H => wi σ H fun J H1 => ∃ W : Nat → Nat → St → Hp → Prop, (∃ m, W 0 m σ H1) ∧ ∀ i m σ H, W i m σ H →
  (J.stop i H ∧ D.nx σ H) ∨ (J.go i H ∧ ∃ N : St → Hp → Prop, (∀ σ' H', N σ' H' → ∃ m', m' < m ∧ W (i + 1) m' σ' H') ∧ ∀ x H', J.yld i H x H' → g x σ H' fun σ2 H2 => tb { D with nx := N, ct := N, bk := D.nx } σ2 H2)
noncomputable def pinsAt (fp : List Addr) (h : Heap) : List (Addr × Obj) := fp.filterMap fun b => (h.get? b).map fun o => (b, o)
theorem mem_pinsAt {fp : List Addr} {h : Heap} {b : Addr} {o : Obj} (hb : b ∈ fp) (e : h.get? b = some o) : (b, o) ∈ pinsAt fp h := List.mem_filterMap.mpr ⟨b, hb, by rw [e]; rfl⟩
theorem of_pinsAt {fp : List Addr} {h : Heap} {p : Addr × Obj} (hp : p ∈ pinsAt fp h) : p.1 ∈ fp ∧ h.get? p.1 = some p.2 := by
  obtain ⟨b, hb, e⟩ := List.mem_filterMap.mp hp
  cases q : h.get? b with
  | none => rw [q] at e; cases e
  | some o =>
    rw [q] at e
    have e' : (b, o) = p := Option.some.inj e
    subst e'
    exact ⟨hb, q⟩
theorem Inv.pinned {pins : List (Addr × Obj)} {σ : St} {H : Hp} {s : Shared} {fp : List Addr} (I : Inv X pins σ H s) (hf : ∀ b ∈ fp, FpOk X pins H b) (ho : ∀ b ∈ fp, ∃ o, s.heap.get? b = some o ∧ ∀ v, o.data ≠ .cell v) : Inv X (pins ++ pinsAt fp s.heap) σ H s :=
  I.pins_of fun p hp => (List.mem_append.mp hp).elim (fun z => I.pin p (List.mem_append_right _ z)) fun z => by
    obtain ⟨hb, e⟩ := of_pinsAt z
    obtain ⟨f0, f1, f2, _⟩ := hf p.1 hb
    obtain ⟨o, e', d⟩ := ho p.1 hb
    rw [e] at e'; cases e'
    exact ⟨e, f0, f1, f2, d⟩
theorem Inv.unpinned {pins pl : List (Addr × Obj)} {σ : St} {H : Hp} {s : Shared} (I : Inv X (pins ++ pl) σ H s) : Inv X pins σ H s := I.pins_of fun p hp => I.pin p (List.mem_append_right _ (List.mem_append_left _ hp))
theorem ps_for {iter : Expr} {body : List Stmt} {wi : TI} {g : TG} {tb : TS} {pos : Pos} (hp : PassesOwn (model X.prog X.w) X.A X.env X.xe) (hc : X.calm = true) (hi : PI X tg iter wi) (hg : PG X tg g) (hb : PSs X body tb)
    (hs : ∀ x, foldedSetIterable iter X.env x = pure x := by intro _; rfl) : PS X (.For tg iter body [] pos) (tFor wi g tb) := by
  intro pins s σ H D I h
  refine wpAny_For (thn (hi pins s σ H _ I h) fun v s1 h1 => thn h1 fun itv s2 h2 => ?_) hs
  obtain ⟨it, fp, tn, J, H2, e, I2, T, st2, f2, W, ⟨m0, w0⟩, turn⟩ := h2
  subst e
  -- what stays true of the iterator's objects through the loop
  have stat : ∀ {H' : Hp}, (∀ b ∈ fp, H' b = none) → ∀ b ∈ fp, FpOk X pins H' b := fun hn b hb => ⟨hn b hb, (f2 b hb).2⟩
  refine codeAny_forLoop_any (fun n s' => ∃ i σ' H', Inv X pins σ' H' s' ∧ tn i s'.heap ∧ (∀ b ∈ fp, H' b = none) ∧ W i n σ' H') ?_ m0 ⟨0, σ, H2, I2, st2, fun b hb => (f2 b hb).1, w0⟩
  rintro n s3 ⟨i, σ3, H3, I3, st3, fr3, w3⟩
  rcases turn i n σ3 H3 w3 with ⟨stop, qn⟩ | ⟨go, N, hN, step⟩
  · refine wpAny_passesOwn hp (thn (T.done X rfl rfl rfl hc i pins s3 σ3 H3 X.xe I3 (stat fr3) st3 stop) fun r s4 ⟨hr, I4⟩ => ?_)
    subst hr
    exact wpAny_execs_nil ⟨σ3, H3, I4, qn⟩
  · refine wpAny_passesOwn hp (thn (T.item X rfl rfl rfl hc i pins s3 σ3 H3 X.xe I3 (stat fr3) st3 go) fun r s4 ⟨u, hr, h4⟩ => ?_)
    subst hr
    refine wpAny_passesOwn hp (thn h4 fun _ s5 ⟨x, H5, I5, r5, y5, st5, fr5⟩ => ?_)
    have I5' := I5.pinned (stat fr5) (T.obj _ _ st5)
    refine wpAny_passesOwn hp (thn (hg _ s5 σ3 H5 x u _ I5' r5 (step x H5 y5)) fun _ s6 ⟨σ6, H6, I6, q6⟩ => ?_)
    refine wpAny_passesOwn hp (thn (hb _ s6 σ6 H6 _ I6 q6) fun f s7 q7 => ?_)
    have again : ∀ {σ7 : St} {H7 : Hp}, Inv X (pins ++ pinsAt fp s5.heap) σ7 H7 s7 → N σ7 H7 → ∃ m, m < n ∧ ∃ i σ' H', Inv X pins σ' H' s7 ∧ tn i s7.heap ∧ (∀ b ∈ fp, H' b = none) ∧ W i m σ' H' := fun {σ7 H7} I7 n7 => by
      obtain ⟨m', hm, w7⟩ := hN σ7 H7 n7
      refine ⟨m', hm, i + 1, σ7, H7, I7.unpinned, T.keep _ _ _ st5 fun b hb o e => (I7.pin (b, o) (List.mem_append_right _ (List.mem_append_right _ (mem_pinsAt hb e)))).1, fun b hb => ?_, w7⟩
      obtain ⟨o, e, d⟩ := T.obj _ _ st5 b hb
      exact (I7.pin (b, o) (List.mem_append_right _ (List.mem_append_right _ (mem_pinsAt hb e)))).2.1
    cases f with
    | next => obtain ⟨σ7, H7, I7, n7⟩ := q7; exact again I7 n7
    | cont => obtain ⟨σ7, H7, I7, n7⟩ := q7; exact again I7 n7
    | brk => obtain ⟨σ7, H7, I7, q7⟩ := q7; exact ⟨σ7, H7, I7.unpinned, q7⟩
    | ret v => obtain ⟨x7, σ7, H7, I7, r7, q7⟩ := q7; exact ⟨x7, σ7, H7, I7.unpinned, r7, q7⟩
end

theorem for_list {K : PySem.W.Frag} {a : Addr} {xs : List V} {g : TG} {tb : TS} {D : Ends} {σ : St} {H : Hp} (Pv : Nat → St → Hp → Prop) (h0 : Pv 0 σ H) (hl : ∀ i σ H, i ≤ xs.length → Pv i σ H → SqL K H a xs)
    (hs : ∀ i x σ H, xs[i]? = some x → Pv i σ H → g x σ H fun σ2 H2 => tb { D with nx := Pv (i + 1), ct := Pv (i + 1), bk := D.nx } σ2 H2) (hd : ∀ σ H, Pv xs.length σ H → D.nx σ H) :
    ∃ W : Nat → Nat → St → Hp → Prop, (∃ m, W 0 m σ H) ∧ ∀ i m σ H, W i m σ H →
      ((Itl K a).stop i H ∧ D.nx σ H) ∨ ((Itl K a).go i H ∧ ∃ N : St → Hp → Prop, (∀ σ' H', N σ' H' → ∃ m', m' < m ∧ W (i + 1) m' σ' H') ∧ ∀ x H', (Itl K a).yld i H x H' → g x σ H' fun σ2 H2 => tb { D with nx := N, ct := N, bk := D.nx } σ2 H2) := by
  refine ⟨fun i m σ H => m = xs.length - i ∧ i ≤ xs.length ∧ Pv i σ H, ⟨xs.length, by simp, Nat.zero_le _, h0⟩, ?_⟩
  rintro i m σ H ⟨rfl, hi, p⟩
  have q := hl i σ H hi p
  by_cases hlt : i < xs.length
  · refine .inr ⟨⟨xs, xs[i], q, by simp [hlt]⟩, Pv (i + 1), fun σ' H' p' => ⟨xs.length - (i + 1), by (first | lia | omega), rfl, hlt, p'⟩, fun x H' y => ?_⟩
    obtain ⟨e, y⟩ := y
    subst e
    exact hs i x σ _ (y xs q) p
  · have e : i = xs.length := by (first | lia | omega)
    subst e
    exact .inl ⟨⟨xs, q, Nat.le_refl _⟩, hd σ H p⟩
theorem for_range {lo : Int} {n : Nat} {g : TG} {tb : TS} {D : Ends} {σ : St} {H : Hp} (Pv : Nat → St → Hp → Prop) (h0 : Pv 0 σ H)
    (hs : ∀ i σ H, i < n → Pv i σ H → g (.int (lo + i)) σ H fun σ2 H2 => tb { D with nx := Pv (i + 1), ct := Pv (i + 1), bk := D.nx } σ2 H2) (hd : ∀ σ H, Pv n σ H → D.nx σ H) :
    ∃ W : Nat → Nat → St → Hp → Prop, (∃ m, W 0 m σ H) ∧ ∀ i m σ H, W i m σ H →
      ((Itr lo n).stop i H ∧ D.nx σ H) ∨ ((Itr lo n).go i H ∧ ∃ N : St → Hp → Prop, (∀ σ' H', N σ' H' → ∃ m', m' < m ∧ W (i + 1) m' σ' H') ∧ ∀ x H', (Itr lo n).yld i H x H' → g x σ H' fun σ2 H2 => tb { D with nx := N, ct := N, bk := D.nx } σ2 H2) := by
  refine ⟨fun i m σ H => m = n - i ∧ i ≤ n ∧ Pv i σ H, ⟨n, by simp, Nat.zero_le _, h0⟩, ?_⟩
  rintro i m σ H ⟨rfl, hi, p⟩
  by_cases hlt : i < n
  · refine .inr ⟨hlt, Pv (i + 1), fun σ' H' p' => ⟨n - (i + 1), by (first | lia | omega), rfl, hlt, p'⟩, fun x H' y => ?_⟩
    obtain ⟨e, y⟩ := y
    subst e y
    exact hs i σ _ hlt p
  · have e : i = n := by (first | lia | omega)
    subst e
    exact .inl ⟨Nat.le_refl _, hd σ H p⟩
end L2

namespace L2
open PySem PySem.Spec PyProof.Rows

noncomputable abbrev R2 := V → V → Hp → VK → Prop
noncomputable def OpR (X : Cx) (f : Value → Value → Sem Value) (r : R2) : Prop :=
  ∀ (pins : List (Addr × Obj)) (s : Shared) (σ : St) (H : Hp) (x y : V) (v u : Value) (Q : VK), Inv X pins σ H s → RelV x v → RelV y u → r x y H Q →
    wpAny (model X.prog X.w) X.A (f v u) (EP X pins σ Q) X.xe s
noncomputable def UnR (X : Cx) (f : Value → Sem Value) (r : V → Hp → VK → Prop) : Prop :=
  ∀ (pins : List (Addr × Obj)) (s : Shared) (σ : St) (H : Hp) (x : V) (v : Value) (Q : VK), Inv X pins σ H s → RelV x v → r x H Q →
    wpAny (model X.prog X.w) X.A (f v) (EP X pins σ Q) X.xe s
noncomputable def CallR (X : Cx) (f : Value) (r : List V → Hp → VK → Prop) : Prop :=
  ∀ (pins : List (Addr × Obj)) (s : Shared) (σ : St) (H : Hp) (xs : List V) (us : List Value) (Q : VK), Inv X pins σ H s → Vals xs us → r xs H Q →
    wpAny (model X.prog X.w) X.A (call f us) (EP X pins σ Q) X.xe s

noncomputable def tOp (r : R2) (ta tb : TE) : TE := fun σ H Q => ta σ H fun x H1 => tb σ H1 fun y H2 => r x y H2 Q
noncomputable def tUn (r : V → Hp → VK → Prop) (ta : TE) : TE := fun σ H Q => ta σ H fun x H1 => r x H1 Q
noncomputable def rI (C : Int → Int → Prop) (g : Int → Int → V) : R2 := fun x y H Q => ∃ i j, x = .int i ∧ y = .int j ∧ C i j ∧ Q (g i j) H
noncomputable def rI0 (g : Int → Int → V) : R2 := fun x y H Q => ∃ i j, x = .int i ∧ y = .int j ∧ Q (g i j) H
noncomputable def rU (g : Int → V) : V → Hp → VK → Prop := fun x H Q => ∃ i, x = .int i ∧ Q (g i) H

section
variable {X : Cx} {a b c : Expr} {ta tb tc : TE} {pos : Pos}

theorem binT (ha : PE X a ta) (hb : PE X b tb) {pins : List (Addr × Obj)} {s : Shared} {σ : St} {H : Hp} {R : V → V → Hp → Prop} (I : Inv X pins σ H s)
    (h : ta σ H fun x H1 => tb σ H1 fun y H2 => R x y H2) {Q : Value → Shared → Prop} {f : Value → Value → Sem Value}
    (hf : ∀ v u s2 x y H2, Inv X pins σ H2 s2 → RelV x v → RelV y u → R x y H2 → wpAny (model X.prog X.w) X.A (f v u) Q X.xe s2) :
    wpAny (model X.prog X.w) X.A (eval a X.env) (fun v s₁ => wpAny (model X.prog X.w) X.A (eval b X.env) (fun u s₂ => wpAny (model X.prog X.w) X.A (f v u) Q X.xe s₂) X.xe s₁) X.xe s := by
  refine thn (ha pins s σ H _ I h) fun v s1 ⟨x, H1, I1, r1, q1⟩ => ?_
  refine thn (hb pins s1 σ H1 _ I1 q1) fun u s2 ⟨y, H2, I2, r2, q2⟩ => ?_
  exact hf v u s2 x y H2 I2 r1 r2 q2

theorem pe_op {op : Operator} {r : R2} (ho : OpR X (binaryOp op) r) (ha : PE X a ta) (hb : PE X b tb) : PE X (.BinOp a op b pos) (tOp r ta tb) := by
  intro pins s σ H Q I h
  exact wpAny_BinOp (binT ha hb I h fun v u s2 x y H2 I2 rx ry q => ho pins s2 σ H2 x y v u Q I2 rx ry q)
theorem pe_un {op : UnaryOp} {r : V → Hp → VK → Prop} (ho : UnR X (unaryOp op) r) (ha : PE X a ta) : PE X (.UnaryOp op a pos) (tUn r ta) := by
  intro pins s σ H Q I h
  exact UnaryOp_ (thn (ha pins s σ H _ I h) fun v s1 ⟨x, H1, I1, r1, q1⟩ => ho pins s1 σ H1 x v Q I1 r1 q1)

theorem opI {f : Value → Value → Sem Value} {C : Int → Int → Prop} {g : Int → Int → Int}
    (rule : ∀ (i j : Int) (t u : Tok) (s : Shared) (Q : Value → Shared → Prop) (E : Value → Shared → Prop), C i j → Q (.int (g i j) s.toks) { s with toks := s.toks + 1 } → wpAny (model X.prog X.w) X.A (f (.int i t) (.int j u)) Q E s) :
    OpR X f (rI C fun i j => .int (g i j)) := by
  intro pins s σ H x y v u Q I rx ry h
  obtain ⟨i, j, rfl, rfl, hc, q⟩ := h
  obtain ⟨t, rfl⟩ := rx
  obtain ⟨t', rfl⟩ := ry
  exact rule i j t t' s _ _ hc ⟨.int (g i j), H, I.tok _, ⟨_, rfl⟩, q⟩
theorem opI0 {f : Value → Value → Sem Value} {g : Int → Int → Int}
    (rule : ∀ (i j : Int) (t u : Tok) (s : Shared) (Q : Value → Shared → Prop) (E : Value → Shared → Prop), Q (.int (g i j) s.toks) { s with toks := s.toks + 1 } → wpAny (model X.prog X.w) X.A (f (.int i t) (.int j u)) Q E s) :
    OpR X f (rI0 fun i j => .int (g i j)) := by
  intro pins s σ H x y v u Q I rx ry h
  obtain ⟨i, j, rfl, rfl, q⟩ := h
  obtain ⟨t, rfl⟩ := rx
  obtain ⟨t', rfl⟩ := ry
  exact rule i j t t' s _ _ ⟨.int (g i j), H, I.tok _, ⟨_, rfl⟩, q⟩
theorem opB0 {f : Value → Value → Sem Value} {g : Int → Int → Bool}
    (rule : ∀ (i j : Int) (t u : Tok) (s : Shared) (Q : Value → Shared → Prop) (E : Value → Shared → Prop), Q (.bool (g i j)) s → wpAny (model X.prog X.w) X.A (f (.int i t) (.int j u)) Q E s) :
    OpR X f (rI0 fun i j => .bl (g i j)) := by
  intro pins s σ H x y v u Q I rx ry h
  obtain ⟨i, j, rfl, rfl, q⟩ := h
  obtain ⟨t, rfl⟩ := rx
  obtain ⟨t', rfl⟩ := ry
  exact rule i j t t' s _ _ ⟨.bl (g i j), H, I, rfl, q⟩

noncomputable def CDiv (i j : Int) : Prop := 0 < j ∧ j < 1073741824
noncomputable def CPow (i j : Int) : Prop := 0 ≤ j ∧ j ≤ 1000000 ∧ i.natAbs < 2 ^ 64
noncomputable def CMul (i j : Int) : Prop := (-(2 ^ 64) < i ∧ i < 2 ^ 64) ∨ (-(2 ^ 64) < j ∧ j < 2 ^ 64)
theorem CMul.ok {i j : Int} (h : CMul i j) : IntMulOk i j := by
  rcases h with ⟨h1, h2⟩ | ⟨h1, h2⟩
  · exact .of_left (intBits_le_64 h1 h2)
  · exact .of_right (intBits_le_64 h1 h2)

theorem op_add : OpR X (binaryOp .Add) (rI0 fun i j => .int (i + j)) := opI0 fun _ _ _ _ _ _ _ q => add_int q
theorem op_sub : OpR X (binaryOp .Sub) (rI0 fun i j => .int (i - j)) := opI0 fun _ _ _ _ _ _ _ q => sub_int q
theorem op_mul : OpR X (binaryOp .Mult) (rI CMul fun i j => .int (i * j)) := opI fun _ _ _ _ _ _ _ hc q => mul_int q hc.ok
theorem op_fdiv : OpR X (binaryOp .FloorDiv) (rI CDiv fun i j => .int (i / j)) := opI fun i j _ _ _ _ _ hc q => by
  have h1 : (0 : Int) < j := hc.1
  have h2 : j < 1073741824 := hc.2
  exact floordiv_int (by (first | lia | omega)) (by rw [Int.fdiv_eq_ediv_of_nonneg i (by (first | lia | omega))]; exact q) (.inl (PyProof.noPylong_small (by (first | lia | omega))))
theorem op_mod : OpR X (binaryOp .Mod) (rI (fun _ j => 0 < j) fun i j => .int (i % j)) := opI fun i j _ _ _ _ _ hc q => by
  have h1 : (0 : Int) < j := hc
  exact mod_int' (by (first | lia | omega)) (by rw [Int.fmod_eq_emod_of_nonneg i (by (first | lia | omega))]; exact q)
theorem op_pow : OpR X (binaryOp .Pow) (rI CPow fun i j => .int (i ^ j.toNat)) := opI fun _ _ _ _ _ _ _ hc q => pow_int_small hc.1 hc.2.1 hc.2.2 q


theorem unI {f : Value → Sem Value} {g : Int → Int}
    (rule : ∀ (i : Int) (t : Tok) (s : Shared) (Q : Value → Shared → Prop) (E : Value → Shared → Prop), Q (.int (g i) s.toks) { s with toks := s.toks + 1 } → wpAny (model X.prog X.w) X.A (f (.int i t)) Q E s) :
    UnR X f (rU fun i => .int (g i)) := by
  intro pins s σ H x v Q I rx h
  obtain ⟨i, rfl, q⟩ := h
  obtain ⟨t, rfl⟩ := rx
  exact rule i t s _ _ ⟨.int (g i), H, I.tok _, ⟨_, rfl⟩, q⟩
theorem un_neg : UnR X (unaryOp .USub) (rU fun i => .int (-i)) := unI fun _ _ _ _ _ q => neg_int q

end

noncomputable def scal : V → V → Bool
  | .non, .non => true | .non, .int _ => true | .int _, .non => true | .non, .bl _ => true | .bl _, .non => true | .non, .str _ => true | .str _, .non => true
  | .int _, .int _ => true | .bl _, .bl _ => true | .str _, .str _ => true | .byt _, .byt _ => true
  | .int _, .str _ => true | .str _, .int _ => true | .bl _, .str _ => true | .str _, .bl _ => true
  | _, _ => false
noncomputable def rEq : R2 := fun x y H Q => scal x y = true ∧ Q (.bl (decide (x = y))) H
noncomputable def rNe : R2 := fun x y H Q => scal x y = true ∧ Q (.bl (!decide (x = y))) H

theorem dec_int {i j : Int} : decide (V.int i = V.int j) = (i == j) := by
  rw [Bool.eq_iff_iff]
  simp
theorem dec_bl {i j : Bool} : decide (V.bl i = V.bl j) = (i == j) := by
  rw [Bool.eq_iff_iff]
  simp
theorem dec_str {i j : Str} : decide (V.str i = V.str j) = (i == j) := by
  rw [Bool.eq_iff_iff]
  simp
theorem dec_byt {i j : Array UInt8} : decide (V.byt i = V.byt j) = (i.toList == j.toList) := by
  rw [Bool.eq_iff_iff]
  cases i
  cases j
  simp

section
variable {X : Cx} {a b c : Expr} {ta tb tc : TE} {pos : Pos}
theorem fin_bl {pins : List (Addr × Obj)} {σ : St} {H : Hp} {s : Shared} {Q : VK} {k k' : Bool} (I : Inv X pins σ H s) (q : Q (.bl k) H) (e : k = k') : EP X pins σ Q (.bool k') s := by
  subst e
  exact ⟨.bl k, H, I, rfl, q⟩
theorem op_eq : OpR X (compareOp .Eq) rEq := by
  intro pins s σ H x y v u Q I rx ry h
  obtain ⟨hs, q⟩ := h
  cases x with
  | non =>
    cases rx
    cases y with
    | non => cases ry; exact PySem.EqNone.eq_none_none (fin_bl I q (by simp))
    | bl j => cases ry; exact PySem.EqNone.eq_none_bool (fin_bl I q (by simp))
    | int j => obtain ⟨t', rfl⟩ := ry; exact PySem.EqNone.eq_none_int (fin_bl I q (by simp))
    | str j => obtain ⟨t', rfl⟩ := ry; exact PySem.EqNone.eq_none_str (fin_bl I q (by simp))
    | _ => exact absurd (show false = true from hs) Bool.false_ne_true
  | bl i =>
    cases rx
    cases y with
    | non => cases ry; exact PySem.EqNone.eq_bool_none (fin_bl I q (by simp))
    | bl j => cases ry; exact eq_bool (fin_bl I q dec_bl)
    | str j => obtain ⟨t', rfl⟩ := ry; exact PySem.EqMixed.eq_bool_str (fin_bl I q (by simp))
    | _ => exact absurd (show false = true from hs) Bool.false_ne_true
  | int i =>
    obtain ⟨t, rfl⟩ := rx
    cases y with
    | non => cases ry; exact PySem.EqNone.eq_int_none (fin_bl I q (by simp))
    | int j => obtain ⟨t', rfl⟩ := ry; exact eq_int (fin_bl I q dec_int)
    | str j => obtain ⟨t', rfl⟩ := ry; exact PySem.EqMixed.eq_int_str (fin_bl I q (by simp))
    | _ => exact absurd (show false = true from hs) Bool.false_ne_true
  | str i =>
    obtain ⟨t, rfl⟩ := rx
    cases y with
    | non => cases ry; exact PySem.EqNone.eq_str_none (fin_bl I q (by simp))
    | bl j => cases ry; exact PySem.EqMixed.eq_str_bool (fin_bl I q (by simp))
    | int j => obtain ⟨t', rfl⟩ := ry; exact PySem.EqMixed.eq_str_int (fin_bl I q (by simp))
    | str j => obtain ⟨t', rfl⟩ := ry; exact eq_str (fin_bl I q dec_str)
    | _ => exact absurd (show false = true from hs) Bool.false_ne_true
  | byt i =>
    obtain ⟨t, rfl⟩ := rx
    cases y with
    | byt j => obtain ⟨t', rfl⟩ := ry; exact PySem.W.eq_bytes (fin_bl I q dec_byt)
    | _ => exact absurd (show false = true from hs) Bool.false_ne_true
  | _ => cases y <;> exact absurd (show false = true from hs) Bool.false_ne_true
theorem op_ne : OpR X (compareOp .NotEq) rNe := by
  intro pins s σ H x y v u Q I rx ry h
  obtain ⟨hs, q⟩ := h
  cases x with
  | non =>
    cases rx
    cases y with
    | non => cases ry; exact PySem.EqNone.ne_none_none (fin_bl I q (by simp))
    | bl j => cases ry; exact PySem.EqNone.ne_none_bool (fin_bl I q (by simp))
    | int j => obtain ⟨t', rfl⟩ := ry; exact PySem.EqNone.ne_none_int (fin_bl I q (by simp))
    | str j => obtain ⟨t', rfl⟩ := ry; exact PySem.EqNone.ne_none_str (fin_bl I q (by simp))
    | _ => exact absurd (show false = true from hs) Bool.false_ne_true
  | bl i =>
    cases rx
    cases y with
    | non => cases ry; exact PySem.EqNone.ne_bool_none (fin_bl I q (by simp))
    | bl j => cases ry; exact ne_bool (fin_bl I q (congrArg not dec_bl))
    | str j => obtain ⟨t', rfl⟩ := ry; exact PySem.EqMixed.ne_bool_str (fin_bl I q (by simp))
    | _ => exact absurd (show false = true from hs) Bool.false_ne_true
  | int i =>
    obtain ⟨t, rfl⟩ := rx
    cases y with
    | non => cases ry; exact PySem.EqNone.ne_int_none (fin_bl I q (by simp))
    | int j => obtain ⟨t', rfl⟩ := ry; exact ne_int (fin_bl I q (congrArg not dec_int))
    | str j => obtain ⟨t', rfl⟩ := ry; exact PySem.EqMixed.ne_int_str (fin_bl I q (by simp))
    | _ => exact absurd (show false = true from hs) Bool.false_ne_true
  | str i =>
    obtain ⟨t, rfl⟩ := rx
    cases y with
    | non => cases ry; exact PySem.EqNone.ne_str_none (fin_bl I q (by simp))
    | bl j => cases ry; exact PySem.EqMixed.ne_str_bool (fin_bl I q (by simp))
    | int j => obtain ⟨t', rfl⟩ := ry; exact PySem.EqMixed.ne_str_int (fin_bl I q (by simp))
    | str j => obtain ⟨t', rfl⟩ := ry; exact ne_str (fin_bl I q (congrArg not dec_str))
    | _ => exact absurd (show false = true from hs) Bool.false_ne_true
  | byt i =>
    obtain ⟨t, rfl⟩ := rx
    cases y with
    | byt j => obtain ⟨t', rfl⟩ := ry; exact PySem.W.ne_bytes (fin_bl I q (congrArg not dec_byt))
    | _ => exact absurd (show false = true from hs) Bool.false_ne_true
  | _ => cases y <;> exact absurd (show false = true from hs) Bool.false_ne_true

theorem op_lt : OpR X (compareOp .Lt) (rI0 fun i j => .bl (decide (i < j))) := opB0 fun _ _ _ _ _ _ _ q => lt_int q
theorem op_le : OpR X (compareOp .LtE) (rI0 fun i j => .bl (decide (i ≤ j))) := opB0 fun _ _ _ _ _ _ _ q => le_int q
theorem op_gt : OpR X (compareOp .Gt) (rI0 fun i j => .bl (decide (j < i))) := opB0 fun _ _ _ _ _ _ _ q => gt_int q

theorem op_isN : OpR X (compareOp .Is) (fun x y H Q => y = .non ∧ Q (.bl (decide (x = .non))) H) := by
  intro pins s σ H x y v u Q I rx ry h
  obtain ⟨rfl, q⟩ := h
  cases ry
  refine is_none_gen (fin_bl I q ?_)
  cases x <;> first
    | (cases rx; rfl)
    | (obtain ⟨t, rfl⟩ := rx; rfl)



theorem nomark (b : Expr) {op : CmpOp} (h : op ≠ .In := by decide) (h2 : op ≠ .NotIn := by decide) : behindInMarks op b = false := by
  have e1 : (op == CmpOp.In) = false := by cases op <;> first | rfl | exact absurd rfl h
  have e2 : (op == CmpOp.NotIn) = false := by cases op <;> first | rfl | exact absurd rfl h2
  cases b <;> simp [behindInMarks, e1, e2]
theorem pe_cmpR {op : CmpOp} {r : R2} (ho : OpR X (compareOp op) r) (ha : PE X a ta) (hb : PE X b tb) (hm : behindInMarks op b = false) : PE X (.Compare a [op] [b] pos) (tOp r ta tb) := by
  intro pins s σ H Q I h
  exact wpAny_Compare1 (binT ha hb I h fun v u s2 x y H2 I2 rx ry q => ho pins s2 σ H2 x y v u Q I2 rx ry q) hm
noncomputable def tTest (t : TE) : TT := fun σ H Q => t σ H fun x H' => ∃ k, x = .bl k ∧ Q k H'
theorem pt_cmpR {op : CmpOp} {r : R2} (ho : OpR X (compareOp op) r) (ha : PE X a ta) (hb : PE X b tb) (hm : behindInMarks op b = false) : PT X (.Compare a [op] [b] pos) (tTest (tOp r ta tb)) := by
  intro pins s σ H Q I h
  refine wpAny_isTrue_Compare1 (thn (ha pins s σ H _ I h) fun v s1 ⟨x, H1, I1, r1, q1⟩ => thn (hb pins s1 σ H1 _ I1 q1) fun u s2 ⟨y, H2, I2, r2, q2⟩ =>
    thn (ho pins s2 σ H2 x y v u _ I2 r1 r2 q2) fun c s3 ⟨z, H3, I3, r3, k, e, q3⟩ => ?_) hm
  subst e
  cases r3
  exact wpAny_truthy_bool ⟨H3, I3, q3⟩

theorem line63 : (sizeLine : Nat) < 2 ^ 63 := by rw [sizeLine_eq]; decide



theorem vals1 {x : V} {us : List Value} (r : Vals [x] us) : ∃ u, us = [u] ∧ RelV x u := by
  cases r with
  | cons r1 r2 => cases r2; exact ⟨_, rfl, r1⟩
theorem vals2 {x y : V} {us : List Value} (r : Vals [x, y] us) : ∃ u w', us = [u, w'] ∧ RelV x u ∧ RelV y w' := by
  cases r with
  | cons r1 r2 =>
    cases r2 with
    | cons r3 r4 => cases r4; exact ⟨_, _, rfl, r1, r3⟩
theorem call_min2 (hc : X.calm = true) : CallR X (.builtin "min") (fun xs H Q => ∃ i j, xs = [.int i, .int j] ∧ Q (.int (if j < i then j else i)) H) := by
  intro pins s σ H xs us Q I r h
  obtain ⟨i, j, rfl, q⟩ := h
  obtain ⟨u, w', rfl, ⟨t, rfl⟩, ⟨t', rfl⟩⟩ := vals2 r
  refine min_two_ints (I.ok.hd hc) fun h' tk k => ⟨_, H, I.kept k, ?_, q⟩
  by_cases hj : j < i
  · rw [if_pos hj, if_pos hj]; exact ⟨_, rfl⟩
  · rw [if_neg hj, if_neg hj]; exact ⟨_, rfl⟩
theorem call_int1 : CallR X (.type "int") (fun xs H Q => (∃ i, xs = [.int i] ∧ Q (.int i) H) ∨ ∃ k, xs = [.bl k] ∧ Q (.int (if k then 1 else 0)) H) := by
  intro pins s σ H xs us Q I r h
  rcases h with ⟨i, rfl, q⟩ | ⟨k, rfl, q⟩
  · obtain ⟨u, rfl, t, rfl⟩ := vals1 r
    exact call_int_int ⟨.int i, H, I, ⟨_, rfl⟩, q⟩
  · obtain ⟨u, rfl, r1⟩ := vals1 r
    cases r1
    exact call_int_bool ⟨.int (if k then 1 else 0), H, I.tok _, ⟨_, rfl⟩, q⟩
end
end L2

namespace L2
open PySem PySem.Spec PyProof.Rows

structure ObjM (h : Heap) (x dx C : Addr) (mA : Str → Option Value) : Prop where
  obj : h.get? x = some (PySem.W.instObj C dx)
  ns : h.Ns1 dx mA
  ne : dx ≠ x

theorem lookIn_ns {h : Heap} {dx : Addr} {mA : Str → Option Value} (n : h.Ns1 dx mA) : ∃ od, h.get? dx = some od ∧ ∀ name, PySem.W.lookIn name od = some (mA name) := by
  obtain ⟨o, es, ep, ho, hd, hk, _, hm⟩ := n
  refine ⟨o, ho, fun name => ?_⟩
  have e := hm name
  unfold nsFind findBy at e
  rw [← Array.find?_toList] at e
  unfold PySem.W.lookIn
  rw [hd]
  dsimp only
  split
  · rename_i y q
    rw [q] at e
    exact congrArg some e
  · rename_i q
    rw [q] at e
    have a : es.toList.any (·.refKey) = false := by
      rw [List.any_eq_false]
      intro y hy
      obtain ⟨z, t, hkey⟩ := hk y (Array.mem_toList_iff.mp hy)
      simp [DictEntry.refKey, hkey]
    have a' : ¬ es.toList.any (·.refKey) = true := by rw [a]; exact Bool.false_ne_true
    rw [if_neg a']
    exact congrArg some e

theorem ObjM.look {h : Heap} {x dx C : Addr} {mA : Str → Option Value} (I : ObjM h x dx C mA) : ∃ od, PySem.W.InstAt h x (PySem.W.instObj C dx) C (some od) ∧ ∀ name, PySem.W.lookIn name od = some (mA name) :=
  let ⟨od, ho, hl⟩ := lookIn_ns I.ns
  ⟨od, ⟨I.obj, rfl, rfl, ho⟩, hl⟩

section
variable {prog : Program} {w : World} {A : Around} {E : Value → Shared → Prop} {s : Shared} {K : PySem.W.Frag} {x dx C f : Addr} {mA : Str → Option Value} {name : Str} {v : Value}





end


theorem RelO.some_of {v : V} {o : Option Value} (r : RelO (some v) o) : ∃ u, o = some u ∧ RelV v u := by
  cases o with
  | none => exact (show False from r).elim
  | some u => exact ⟨u, rfl, r⟩

section
variable {P : Program} {w : World} {H H' : Hp} {h h' : Heap} {a C dx : Addr} {fs fs' : List (Str × V)}
theorem ins_get (hok : HOk P w H h) (e : H a = some (.ins C dx fs)) : ∃ mA, ObjM h a dx C mA ∧ (∀ f, RelO (fs.lookup f) (mA f)) ∧ PySem.Within mA (fs.map (·.1)) ∧ fs.length ≤ 1000 ∧ H dx = some (.own a) := by
  obtain ⟨d, z, ne, ob, mA, n, r, q⟩ := (show ObjOk P w H h a (.ins C dx fs) from hok a _ e)
  exact ⟨mA, ⟨ob, n, ne⟩, r, q, z, d⟩
end

structure Cls (K : PySem.W.Frag) (C : Addr) : Prop where
  pg : PySem.W.plainGet K C Str.empty = true
  hd : PySem.W.hasDictIn K C = true
  po : PySem.W.plainOver K C = true
  sa : PySem.W.findIn K (.ref C) "__setattr__" = some (some (.builtin "object.__setattr__"))
theorem Cls.get {K : PySem.W.Frag} {C : Addr} (c : Cls K C) (f : Str) : PySem.W.plainGet K C f = true := c.pg

section
variable {X : Cx} {pins : List (Addr × Obj)} {σ : St} {H : Hp} {s : Shared} {a C dx : Addr} {fs : List (Str × V)} {f : Str} {v : V} {A : Around} {E : Value → Shared → Prop}






end


section
variable {X : Cx} {o e value : Expr} {f : Str} {pos pos' tpos : Pos} {ta tv : TE}

end

section
variable {X : Cx} {pins : List (Addr × Obj)} {σ : St} {H : Hp} {s : Shared} {A : Around} {E : Value → Shared → Prop} {Q : Value → Shared → Prop} {c : Value} {b : Bool}
inductive TyOf (K : PySem.W.Frag) (H : Hp) : V → Value → Prop where
  | non : TyOf K H .non (.type "NoneType")
  | bl (x : Bool) : TyOf K H (.bl x) (.type "bool")
  | int (i : Int) : TyOf K H (.int i) (.type "int")
  | str (x : Str) : TyOf K H (.str x) (.type "str")
  | flt (x : UInt64) : TyOf K H (.flt x) (.type "float")
  | lst {a : Addr} {xs : List V} (e : H a = some (.lst xs)) : TyOf K H (.ref a) (.type "list")
  | frz {a : Addr} {o : Obj} {xs : List V} (e : H a = some (.frz o (.lst xs))) : TyOf K H (.ref a) (.type "list")
  | tup {a : Addr} {xs : List V} (e : H a = some (.tup xs)) : TyOf K H (.ref a) (.type "tuple")
  | dK {a : Addr} {kvs : List (Key × V)} (e : H a = some (.dK kvs)) : TyOf K H (.ref a) (.type "dict")
  | dT {a : Addr} {kvs : List (List Key × V)} (e : H a = some (.dT kvs)) : TyOf K H (.ref a) (.type "dict")
  | ins {a C dx : Addr} {fs : List (Str × V)} (e : H a = some (.ins C dx fs)) (cl : Cls K C) (ha : PySem.W.findIn K (.ref C) "__class__" = some (some (.builtin "object.__class__")))
      (hn : PySem.W.specialIn K (.builtin "object.__class__") "__get__" = some (some (.builtin "getset_descriptor.__get__"))) (htk : PySem.W.takesIn K (.builtin "object.__class__") = some true)
      (hm : PySem.W.mroIn K C (.type "object") = some true) : TyOf K H (.ref a) (.ref C)
end
end L2

namespace L2
open PySem PySem.Spec PyProof.Rows

structure Room (k : Nat) (A : Around) : Prop where
  hd : A.handled = none
  dp : A.depth + 3 * k + 5 < recursionLimit
  un : A.units + 16 * k + 200 < cLine
theorem Room.mono {j k : Nat} {A : Around} (r : Room k A) (h : j ≤ k) : Room j A := ⟨r.hd, by have := r.dp; (first | lia | omega), by have := r.un; (first | lia | omega)⟩
theorem Room.deeper {k : Nat} {A : Around} (r : Room (k + 1) A) (env : Env) : Room k (A.deeper env) :=
  ⟨r.hd, by have := r.dp; show A.depth + 1 + 3 * k + 5 < _; (first | lia | omega), by have := r.un; show A.units + 3 + 16 * k + 200 < _; (first | lia | omega)⟩
theorem Room.depth {k : Nat} {A : Around} (r : Room k A) : A.depth < recursionLimit := by have := r.dp; (first | lia | omega)
theorem Room.units {k : Nat} {A : Around} (r : Room k A) : A.units + 64 < cLine := by have := r.un; (first | lia | omega)

noncomputable def tNil : TA := fun _ H Q => Q [] H
noncomputable def tCons (ta : TE) (tr : TA) : TA := fun σ H Q => ta σ H fun x H1 => tr σ H1 fun xs H2 => Q (x :: xs) H2
section
variable {X : Cx} {e : Expr} {es : List Expr} {te : TE} {t : TA} {pos : Pos}
theorem pa_nil : PA X [] tNil := fun _ _ _ _ H Q I h => Calls.spliced_nil ⟨[], H, I, .nil, h⟩
theorem pa_cons (ha : PE X e te) (hr : PA X es t) (hs : starEach (e :: es) X.env = (false, eval e X.env) :: starEach es X.env := by rfl) : PA X (e :: es) (tCons te t) := by
  intro pos pins s σ H Q I h
  rw [hs]
  show wpAny _ _ (spliced ((false, eval e X.env) :: backTo pos (starEach es X.env))) _ _ s
  refine Calls.spliced_cons (thn (ha pins s σ H _ I h) fun u s1 ⟨x, H1, I1, r1, q1⟩ => ?_)
  exact thn (hr pos pins s1 σ H1 _ I1 q1) fun us s2 ⟨xs, H2, I2, r2, q2⟩ => ⟨x :: xs, H2, I2, .cons r1 r2, q2⟩

noncomputable def tTup (t : TA) : TE := fun σ H Q => t σ H fun xs H1 => xs.length ≤ sizeLine ∧ ∀ p, H1 p = none → Q (.ref p) (upd H1 p (.tup xs))
noncomputable def tLst (t : TA) : TE := fun σ H Q => t σ H fun xs H1 => xs.length ≤ sizeLine ∧ ∀ p, H1 p = none → Q (.ref p) (upd H1 p (.lst xs))
theorem pe_tup {x1} (h : PA X es t) : PE X (.Tuple es x1 pos) (tTup t) := by
  intro pins s σ H Q I hq
  refine wpAny_Tuple_spliced (thn (h pos pins s σ H _ I hq) fun us s1 ⟨xs, H1, I1, r, z, q⟩ => ⟨by rw [← r.length]; exact z, ?_⟩)
  have hf : H1 s1.heap.objs.size = none := I1.hok.fresh (Nat.le_refl _)
  refine ⟨.ref s1.heap.objs.size, upd H1 s1.heap.objs.size (.tup xs), I1.laid (t' := s1.toks) (fun b u e => Heap.get?_push_of_some _ e) (Nat.le_refl _) ?_, rfl, q _ hf⟩
  exact ⟨z, us, r, ⟨_, Heap.get?_push_size _ rfl, rfl, _, rfl⟩⟩
theorem pe_lst (h : PA X es t) : PE X (.List es pos) (tLst t) := by
  intro pins s σ H Q I hq
  refine wpAny_List_spliced (thn (h pos pins s σ H _ I hq) fun us s1 ⟨xs, H1, I1, r, z, q⟩ => ⟨by rw [← r.length]; exact z, ?_⟩)
  have hf : H1 s1.heap.objs.size = none := I1.hok.fresh (Nat.le_refl _)
  refine ⟨.ref s1.heap.objs.size, upd H1 s1.heap.objs.size (.lst xs), I1.laid (t' := s1.toks) (fun b u e => Heap.get?_push_of_some _ e) (Nat.le_refl _) ?_, rfl, q _ hf⟩
  exact ⟨z, us, 0, r, Heap.get?_push_size _ rfl⟩
end

noncomputable abbrev Sp := List V → Hp → VK → XK → Prop
noncomputable abbrev CXT := List Env → Hp → Shared → XK → Value → Shared → Prop

structure Env0 (P : Program) (w : World) (K : PySem.W.Frag) (mg : Str → Option Value) (base : Heap) (A : Around) (outer : List Env) (s : Shared) (H : Hp) : Prop where
  frames : A.frames = some outer
  mod : Mod K mg base
  bs : ∀ b o, base.get? b = some o → s.heap.get? b = some o ∧ H b = none
  bsz : base.objs.size ≤ s.heap.objs.size
  funs : s.heap.FunFrames base outer
  frf : ∀ b ∈ frs outer, H b = none
  hok : HOk P w H s.heap
  bare : AllBare s.gens
noncomputable def CE (outer : List Env) (P : Program) (w : World) (H : Hp) (s : Shared) (Q : VK) (u : Value) (s' : Shared) : Prop :=
  ∃ v H', s'.os = s.os ∧ AllBare s'.gens ∧ Un (frs outer) [] H H' s.heap s'.heap ∧ HOk P w H' s'.heap ∧ RelV v u ∧ Q v H'
noncomputable def CR (CX : CXT) (outer : List Env) (P : Program) (w : World) (H : Hp) (s : Shared) (Q : VK) (E : XK) (r : Result) (s' : Shared) : Prop :=
  match r with
  | .ok (.ret u) => CE outer P w H s Q u s'
  | .ok _ => False
  | .error e => CX outer H s E e s'
structure FnOk (P : Program) (w : World) (K : PySem.W.Frag) (mg : Str → Option Value) (base : Heap) (CX : CXT) (k : Nat) (f : Addr) (fd : FuncData) (ps : List Str) (sp : Sp) : Prop where
  len : ∀ vs H Q E, sp vs H Q E → vs.length = ps.length
  run : ∀ (A : Around) (outer : List Env) (s : Shared) (H : Hp) (args : Args) (us : List Value) (vs : List V) (Q : VK) (E : XK), Room k A → Env0 P w K mg base A outer s H → BindsTo s fd args (ps.zip us) → Vals vs us → sp vs H Q E →
    codeAny (model P w) A (.call (.ref f) args) (CR CX outer P w H s Q E) s
theorem FnOk.mono {P : Program} {w : World} {K : PySem.W.Frag} {mg : Str → Option Value} {base : Heap} {CX : CXT} {j k : Nat} {f : Addr} {fd : FuncData} {ps : List Str} {sp : Sp} (F : FnOk P w K mg base CX j f fd ps sp) (h : j ≤ k) :
    FnOk P w K mg base CX k f fd ps sp := ⟨F.len, fun A outer s H args us vs Q E hr => F.run A outer s H args us vs Q E (hr.mono h)⟩


section
variable {X : Cx} {pins : List (Addr × Obj)} {σ : St} {H : Hp} {s s' : Shared}
theorem Inv.env0 (I : Inv X pins σ H s) : Env0 X.prog X.w X.K X.mg X.base X.A X.stack s H :=
  ⟨I.ok.frames, I.ok.mod, I.bs, Nat.le_trans I.ok.bsz I.sz, I.stack, I.stkFree, I.hok, I.bare⟩
theorem Inv.after {Q : VK} {u : Value} (I : Inv X pins σ H s) (h : CE X.stack X.prog X.w H s Q u s') : EP X pins σ Q u s' := by
  obtain ⟨v, H', os, bare, un, hok, r, q⟩ := h
  obtain ⟨hh, g, d, t, os'⟩ := s'
  obtain rfl : os' = s.os := os
  exact ⟨v, H', I.call (h' := hh) (g' := g) (d' := d) (t' := t) (ch := []) un hok bare (fun b z => absurd z (by simp)), r, q⟩
end

noncomputable def tCall (sp : Sp) (dvs : List V) (E : XK) (t : TA) : TE := fun σ H Q => t σ H fun vs H1 => sp (vs ++ dvs) H1 Q E

noncomputable def Binds (K : PySem.W.Frag) (fd : FuncData) (ps : List Str) (ds : List Value) : Prop :=
  ∀ (s : Shared) (us : List Value), K.In s.heap → (us ++ ds).length = ps.length → BindsTo s fd ⟨us, []⟩ (ps.zip (us ++ ds))
theorem Binds.all {K : PySem.W.Frag} {fd : FuncData} {ps : List Str} (h : ∀ us : List Value, us.length = ps.length → bindArgs fd ⟨us, []⟩ = pure (ps.zip us)) : Binds K fd ps [] := fun s us _ hl => by
  rw [List.append_nil] at hl ⊢
  exact .of_eq (h us hl)

noncomputable def Passes (CX : CXT) (X : Cx) (E : XK) : Prop := ∀ (pins : List (Addr × Obj)) (σ : St) (H : Hp) (s : Shared) (e : Value) (s' : Shared), Inv X pins σ H s → CX X.stack H s E e s' → X.xe e s'

section
variable {X : Cx} {CX : CXT} {k : Nat} {f C : Addr} {fd : FuncData} {ps : List Str} {sp : Sp} {dvs : List V} {ds : List Value} {E : XK} {x m : Str} {p pos apos : Pos} {e o : Expr} {es : List Expr} {ta : TE} {t : TA}

theorem run_fn {pins : List (Addr × Obj)} {σ : St} {H : Hp} {s : Shared} {Q : VK} {us : List Value} {vs : List V} (F : FnOk X.prog X.w X.K X.mg X.base CX k f fd ps sp) (hr : Room k X.A) (hb : Binds X.K fd ps ds) (hd : Vals dvs ds) (hx : Passes CX X E)
    (I : Inv X pins σ H s) (r : Vals vs us) (h : sp (vs ++ dvs) H Q E) : wpAny (model X.prog X.w) X.A (call (.ref f) us) (EP X pins σ Q) X.xe s := by
  have r2 : Vals (vs ++ dvs) (us ++ ds) := r.append hd
  have hl : (us ++ ds).length = ps.length := by rw [← r2.length]; exact F.len _ _ _ _ h
  refine wpAny_call (codeAny_mono (F.run X.A X.stack s H ⟨us, []⟩ (us ++ ds) (vs ++ dvs) Q E hr I.env0 (hb s us I.kIn hl) r2 h) fun r s' hq => ?_)
  cases r with
  | error e => exact hx pins σ H s e s' I hq
  | ok fl =>
    cases fl with
    | ret u => exact I.after hq
    | next => exact False.elim hq
    | brk => exact False.elim hq
    | cont => exact False.elim hq

theorem pe_call (F : FnOk X.prog X.w X.K X.mg X.base CX k f fd ps sp) (hr : Room k X.A) (hg : Gl X x) (hm : X.mg x = some (.ref f)) (hk : PySem.W.keepIn X.K (.ref f) = true) (hb : Binds X.K fd ps ds) (hd : Vals dvs ds) (hx : Passes CX X E)
    (ha : PA X (e :: es) t) (hdb : (x == ("__debug__" : Str)) = false := by decide) (he : starEach (e :: es) X.env = (false, eval e X.env) :: starEach es X.env := by rfl) (hpl : (backTo pos (starEach es X.env)).any (·.1) = false := by rfl) :
    PE X (.Call (.Name x p) (e :: es) [] pos) (tCall sp dvs E t) := by
  intro pins s σ H Q I h
  refine wpAny_Call_Name_kw (ld_glob I hg hm ?_ hdb)
  refine PySem.W.callWith_K (h₀ := X.base) I.ok.mod.kin hk (thn (ha pos pins s σ H _ I h) fun us s1 ⟨vs, H1, I1, r, q⟩ => ⟨I1.kIn, ?_⟩) he hpl
  exact run_fn F hr hb hd hx I1 r q



end

section
variable {X : Cx} {CX : CXT} {k : Nat} {f C : Addr} {fd : FuncData} {ps ks : List Str} {sp : Sp} {E : XK} {x m : Str} {p pos apos kpos : Pos} {e o : Expr} {es : List Expr} {kws : List Keyword} {te ta : TE} {t tk : TA} {nm : Option Str}

variable {g : List Value → List Value → List Value} {gV : List V → List V → List V}
end

structure FnScope (N P : List Str) (sc : Scope) : Prop where
  kind : sc.kind = .function
  co : sc.isCoroutine = false
  gen : sc.isGenerator = false
  nd : N.Nodup
  pre : N.take P.length = P
  par : ∀ x ∈ P, sc.names.lookup x = some .local ∨ sc.names.lookup x = some .cell
  nofree : ∀ y ∈ sc.names, y.2 ≠ .free

theorem bindL_out {kindOf : Str → Option NameKind} {x : Str} : ∀ {binds : List (Str × Value)} {m : Str → Option Value}, (∀ v, (x, v) ∉ binds) → bindL kindOf binds m x = m x
  | [], _, _ => rfl
  | (n, v) :: r, m, h => by
    unfold bindL
    rw [bindL_out fun w hw => h w (List.mem_cons_of_mem _ hw)]
    split
    · have : x ≠ n := by rintro rfl; exact h v List.mem_cons_self
      simp [this]
    · rfl
theorem bindC_out {kindOf : Str → Option NameKind} {x : Str} : ∀ {binds : List (Str × Value)} {m : Str → Option Value}, (∀ v, (x, v) ∉ binds) → bindC kindOf binds m x = m x
  | [], _, _ => rfl
  | (n, v) :: r, m, h => by
    unfold bindC
    rw [bindC_out fun w hw => h w (List.mem_cons_of_mem _ hw)]
    split
    · rfl
    · have : x ≠ n := by rintro rfl; exact h v List.mem_cons_self
      simp [this]
theorem bindL_get {kindOf : Str → Option NameKind} {x : Str} {v : Value} : ∀ {P : List Str} {vs : List Value} {i : Nat} {m : Str → Option Value}, P.Nodup → P[i]? = some x → vs[i]? = some v → kindOf x = some .local →
    bindL kindOf (P.zip vs) m x = some v
  | [], _, _, _, _, h, _, _ => by simp at h
  | _ :: _, [], _, _, _, _, h, _ => by simp at h
  | p :: P, w :: vs, 0, m, nd, h1, h2, hk => by
    simp at h1 h2; subst h1; subst h2
    show bindL kindOf ((p, w) :: P.zip vs) m p = _
    unfold bindL
    rw [bindL_out fun v hv => (List.nodup_cons.mp nd).1 (List.of_mem_zip hv).1, if_pos hk]
    simp
  | p :: P, w :: vs, i + 1, m, nd, h1, h2, hk => by
    show bindL kindOf ((p, w) :: P.zip vs) m x = _
    unfold bindL
    exact bindL_get (i := i) (List.nodup_cons.mp nd).2 (by simpa using h1) (by simpa using h2) hk
theorem bindC_get {kindOf : Str → Option NameKind} {x : Str} {v : Value} : ∀ {P : List Str} {vs : List Value} {i : Nat} {m : Str → Option Value}, P.Nodup → P[i]? = some x → vs[i]? = some v → kindOf x ≠ some .local →
    bindC kindOf (P.zip vs) m x = some v
  | [], _, _, _, _, h, _, _ => by simp at h
  | _ :: _, [], _, _, _, _, h, _ => by simp at h
  | p :: P, w :: vs, 0, m, nd, h1, h2, hk => by
    simp at h1 h2; subst h1; subst h2
    show bindC kindOf ((p, w) :: P.zip vs) m p = _
    unfold bindC
    rw [bindC_out fun v hv => (List.nodup_cons.mp nd).1 (List.of_mem_zip hv).1, if_neg hk]
    simp
  | p :: P, w :: vs, i + 1, m, nd, h1, h2, hk => by
    show bindC kindOf ((p, w) :: P.zip vs) m x = _
    unfold bindC
    exact bindC_get (i := i) (List.nodup_cons.mp nd).2 (by simpa using h1) (by simpa using h2) hk

noncomputable def start (N : List Str) (vs : List V) : St := vs.map some ++ List.replicate (N.length - vs.length) none

noncomputable def cxOf (CX : CXT) (P : Program) (w : World) (K : PySem.W.Frag) (mg : Str → Option Value) (base : Heap) (N : List Str) (qual : Str) (scope : Scope) (f : Addr) (cd : Value) (A : Around) (outer : List Env) (s : Shared) (H : Hp) (E : XK) : Cx where
  prog := P
  w := w
  K := K
  mg := mg
  base := base
  A := A.deeper (envOfC qual scope s.heap.objs.size f cd)
  N := N
  s₀ := s
  H₀ := H
  env := envOfC qual scope s.heap.objs.size f cd
  outer := outer
  stack := envOfC qual scope s.heap.objs.size f cd :: outer
  ex := []
  calm := true
  fn := fun _ => true
  pn := []
  xe := fun e s' => wpAny (model P w) (A.deeper (envOfC qual scope s.heap.objs.size f cd)) (leaving (envOfC qual scope s.heap.objs.size f cd) e) (fun _ s'' => CX outer H s E e s'') (fun e' s'' => CX outer H s E e' s'') s'

theorem cell_has {sc : Scope} {n : Nat} {x : Str} (h : sc.names.lookup x = some .cell) : ∃ c, (cellsFrom n sc.names []).lookup x = some c := by
  have q := PySem.W.cellsFrom_some sc.names n [] (.inl h)
  exact Option.isSome_iff_exists.mp q

theorem inv_start {CX : CXT} {P : Program} {w : World} {K : PySem.W.Frag} {mg : Str → Option Value} {base : Heap} {N ps : List Str} {qual : Str} {scope : Scope} {f : Addr} {cd : Value} {A : Around} {outer : List Env} {s s1 : Shared} {H : Hp} {E : XK} {us : List Value} {vs : List V}
    (S : FnScope N ps scope) (hd : A.handled = none) (e0 : Env0 P w K mg base A outer s H) (hl : vs.length = ps.length) (r : Vals vs us)
    (x : InCallC s s.heap.objs.size (bindL (envOfC qual scope s.heap.objs.size f cd).kindOf (ps.zip us) fun _ => none) (cellsFrom (s.heap.objs.size + 1) scope.names []) (bindC (envOfC qual scope s.heap.objs.size f cd).kindOf (ps.zip us) fun _ => none) s1) :
    Inv (cxOf CX P w K mg base N qual scope f cd A outer s H E) [] (start N vs) H s1 := by
  have hpl : ps.length ≤ N.length := by have := congrArg List.length S.pre; rw [List.length_take] at this; (first | lia | omega)
  obtain ⟨h1, tk, rfl, hk⟩ := x.done
  have noA : ∀ b : Addr, b ∉ (cxOf CX P w K mg base N qual scope f cd A outer s H E).ex := fun b z => absurd (show b ∈ ([] : List Addr) from z) (by simp)
  refine ⟨⟨e0.mod, S.kind, rfl, rfl, Nat.le_refl _, fun y z c h1 h2 => ?_, fun y hy => ?_, fun y c _ h => ?_, fun _ => hd, Around.frames_deeper e0.frames, .inr ⟨rfl, rfl⟩, fun b z => absurd z (noA b), e0.bs, e0.bsz, fun b _ _ => noA b, fun b z => absurd z (noA b), e0.funs, e0.frf⟩,
    rfl, e0.bare, Un.kept hk, ⟨_, x.toInCall.ns, fun i y v h1 h2 h3 => ?_⟩, fun y c h => ⟨_, x.cell y c h⟩, e0.hok.fresh (Nat.le_refl _), fun y c h => ?_, fun p hp => absurd (show p ∈ ([] : List (Addr × Obj)) from hp) (by simp), e0.hok.kept hk, ?_⟩
  · exact name_of_addr x.apart (PySem.mem_of_lookup h1) (PySem.mem_of_lookup h2)
  · have hy : scope.names.lookup y = some .cell ∨ scope.names.lookup y = some .free := hy
    rcases hy with hy | hy
    · exact cell_has hy
    · exact absurd rfl (S.nofree _ (PySem.mem_of_lookup hy))
  · exact Nat.le_of_lt (x.above y c (PySem.mem_of_lookup h))
  · have hi : i < vs.length := by
      unfold start at h2
      by_cases hi : i < vs.length
      · exact hi
      · rw [List.getElem?_append_right (by simpa using hi)] at h2
        rw [List.getElem?_replicate] at h2
        split at h2 <;> cases h2
    have ha : vs[i]? = some v := by
      unfold start at h2
      rw [List.getElem?_append_left (by simpa using hi), List.getElem?_map] at h2
      cases e : vs[i]? with
      | none => rw [e] at h2; cases h2
      | some a => rw [e] at h2; cases h2; rfl
    obtain ⟨u, hu, rv⟩ := r.get ha
    have hp : ps[i]? = some y := by
      rw [← S.pre, List.getElem?_take_of_lt (by (first | lia | omega))]; exact h1
    have ndP : ps.Nodup := by rw [← S.pre]; exact S.nd.sublist (List.take_sublist _ _)
    refine ⟨u, rv, ?_⟩
    rcases S.par y (List.mem_of_getElem? hp) with k | k
    · exact .inl ⟨k, bindL_get ndP hp hu k⟩
    · obtain ⟨c, e⟩ := cell_has (n := s.heap.objs.size + 1) k
      refine .inr ⟨.inl k, c, e, ?_⟩
      have q := x.cell y c e
      rw [bindC_get ndP hp hu (by show scope.names.lookup y ≠ _; rw [k]; decide)] at q
      exact q
  · exact e0.hok.fresh (Nat.le_of_lt (x.above y c (PySem.mem_of_lookup h)))
  · unfold start
    show _ = N.length
    rw [List.length_append, List.length_map, List.length_replicate]
    (first | lia | omega)

theorem fn_of {CX : CXT} {P : Program} {w : World} {K : PySem.W.Frag} {mg : Str → Option Value} {base : Heap} {k : Nat} {f : Addr} {name qual : Str} {params : Arguments} {body : List Stmt} {scope : Scope} {dV kV doc pm cdv ct oc : Value} {an od : Option Addr}
    {osl : Array (Option Value)} {N ps : List Str} {sp : Sp} (lk : K.lookup f = some ⟨oc, od, .func (PySem.W.fnOf name qual params body scope dV kV doc pm an cdv ct), osl⟩) (hcd : PySem.W.codeIn K cdv qual = true) (S : FnScope N ps scope)
    (len : ∀ vs H Q E, sp vs H Q E → vs.length = ps.length)
    (hbody : ∀ (A : Around) (outer : List Env) (s : Shared) (H : Hp) (vs : List V) (Q : VK) (E : XK), Room k (A.deeper (envOfC qual scope s.heap.objs.size f cdv)) → sp vs H Q E →
      ∃ t, PSs (cxOf CX P w K mg base N qual scope f cdv A outer s H E) body t ∧ t { nx := fun _ H' => Q .non H', rt := Q } (start N vs) H) :
    FnOk P w K mg base CX (k + 1) f (PySem.W.fnOf name qual params body scope dV kV doc pm an cdv ct) ps sp := by
  refine ⟨len, fun A outer s H args us vs Q E hr e0 hb r hsp => ?_⟩
  have hl := len _ _ _ _ hsp
  have KX : K.In s.heap := e0.mod.kin.keeps fun b o e => (e0.bs b o e).1
  have lim : s.heap.NoLimit := e0.mod.nolimit.keeps fun b o e => (e0.bs b o e).1
  have hkind : ∀ y ∈ ps.zip us, scope.names.lookup y.1 = some .local ∨ (scope.names.lookup y.1 = some .cell ∧ ((cellsFrom (s.heap.objs.size + 1) scope.names []).lookup y.1).isSome = true) := fun ⟨n, v⟩ hy => by
    rcases S.par n (List.of_mem_zip hy).1 with q | q
    · exact .inl q
    · exact .inr ⟨q, PySem.W.cellsFrom_some _ _ _ (.inl q)⟩
  refine codeAny_call_function hr.depth (KX _ _ lk) rfl S.co S.gen rfl (PySem.W.codeRec_of KX hcd) (hb _ _ _ _ ?_)
  refine wpAny_newFunctionEnv_cells S.kind hkind fun env he s1 x => ?_
  subst he
  refine ⟨lim.keeps x.toInCall.keep, codeAny_func ?_⟩
  obtain ⟨t, ht, hq⟩ := hbody A outer s H vs Q E (hr.deeper _) hsp
  have I : Inv (cxOf CX P w K mg base N qual scope f cdv A outer s H E) [] (start N vs) H s1 := inv_start S hr.hd e0 hl r x
  refine wpAny_mono (ht [] s1 (start N vs) H _ I hq) (fun fl s' hs => ?_) fun e s' hs => hs
  have fin : ∀ {σ' : St} {H' : Hp} {v : V} {u : Value}, Inv (cxOf CX P w K mg base N qual scope f cdv A outer s H E) [] σ' H' s' → RelV v u → Q v H' → CE outer P w H s Q u s' :=
    fun {σ' H' v u} J rv q => ⟨v, H', J.os, J.bare, J.base, J.hok, rv, q⟩
  cases fl with
  | ret u =>
    obtain ⟨v, σ', H', J, rv, q⟩ := hs
    exact fin J rv q
  | next =>
    obtain ⟨σ', H', J, q⟩ := hs
    exact fin (v := V.non) (u := Value.none) J rfl q
  | brk =>
    obtain ⟨_, _, _, q⟩ := hs
    exact False.elim q
  | cont =>
    obtain ⟨_, _, _, q⟩ := hs
    exact False.elim q
end L2

namespace L2
open PySem PySem.Spec PyProof.Rows
section
variable {X : Cx} {x : Str} {p pos : Pos} {e : Expr} {es : List Expr} {t : TA} {id T : String} {r : List V → Hp → VK → Prop}

noncomputable def tCB (r : List V → Hp → VK → Prop) (t : TA) : TE := fun σ H Q => t σ H fun vs H1 => r vs H1 Q
theorem pe_callB (hc : CallR X (.builtin id) r) (hg : Gl X x) (hm : X.mg x = none) (hv : bootBuiltins x = some (.builtin id)) (ha : PA X (e :: es) t) (hn : x ≠ "__name__" := by decide) (hdb : (x == ("__debug__" : Str)) = false := by decide)
    (he : starEach (e :: es) X.env = (false, eval e X.env) :: starEach es X.env := by rfl) (hpl : (backTo pos (starEach es X.env)).any (·.1) = false := by rfl) : PE X (.Call (.Name x p) (e :: es) [] pos) (tCB r t) := by
  intro pins s σ H Q I h
  refine wpAny_Call_Name_kw (ld_blt I hg hm hv ?_ hn hdb)
  exact PyProof.Rows.callWith_builtin1 (thn (ha pos pins s σ H _ I h) fun us s1 ⟨vs, H1, I1, r1, q1⟩ => hc pins s1 σ H1 vs us Q I1 r1 q1) he hpl
theorem pe_callTy (hc : CallR X (.type T) r) (hg : Gl X x) (hm : X.mg x = none) (hv : bootBuiltins x = some (.type T)) (ha : PA X (e :: es) t) (hn : x ≠ "__name__" := by decide) (hdb : (x == ("__debug__" : Str)) = false := by decide)
    (he : starEach (e :: es) X.env = (false, eval e X.env) :: starEach es X.env := by rfl) (hpl : (backTo pos (starEach es X.env)).any (·.1) = false := by rfl) : PE X (.Call (.Name x p) (e :: es) [] pos) (tCB r t) := by
  intro pins s σ H Q I h
  refine wpAny_Call_Name_kw (ld_blt I hg hm hv ?_ hn hdb)
  exact PyProof.Rows.callWith_type1 (thn (ha pos pins s σ H _ I h) fun us s1 ⟨vs, H1, I1, r1, q1⟩ => hc pins s1 σ H1 vs us Q I1 r1 q1) he hpl
end
end L2

namespace HT
open PySem PyProof.Rows



section
open PySem.SeqAt
open PySem.AutoSeq1 (wpAny_loadPart')
open PySem.MeetsSeq PySem.MeetsSeq2 PySem.MeetsSeq3

end

section
variable {prog : Program} {w : World} {A : Around} {E : Value → Shared → Prop} {s : Shared}



noncomputable def sIx (n d : Nat) : Option Int → Nat
  | none => d
  | some v => if v < 0 then (v + (n : Int)).toNat else min v.toNat n
theorem sIx_none (n d : Nat) : sIx n d none = d := rfl
theorem sIx_nat (n d k : Nat) : sIx n d (some (k : Int)) = min k n := by
  show (if (k : Int) < 0 then ((k : Int) + (n : Int)).toNat else min (k : Int).toNat n) = min k n
  rw [if_neg (by (first | lia | omega)), Int.toNat_natCast]

end
end HT

namespace L2
open PySem PySem.Spec PyProof.Rows

noncomputable abbrev TO := St → Hp → (Option Int → Hp → Prop) → Prop
noncomputable def PO (X : Cx) (e : Option Expr) (t : TO) : Prop :=
  ∀ (pins : List (Addr × Obj)) (s : Shared) (σ : St) (H : Hp) (Q : Option Int → Hp → Prop), Inv X pins σ H s → t σ H Q →
    wpAny (model X.prog X.w) X.A (evalPart e X.env) (fun u s' => ∃ o H', Inv X pins σ H' s' ∧ IsPart u o ∧ Q o H') X.xe s
noncomputable def tNoPart : TO := fun _ H Q => Q none H
noncomputable def tPart (t : TE) : TO := fun σ H Q => t σ H fun x H1 => ∃ i, x = .int i ∧ Q (some i) H1

theorem intsAre_of {ns : List Int} : ∀ {us : List Value}, Vals (ns.map V.int) us → IntsAre us ns := by
  induction ns with
  | nil => intro us r; rw [List.map_nil] at r; cases r; exact .nil
  | cons n ns ih =>
    intro us r
    rw [List.map_cons] at r
    cases r with
    | cons r1 r2 =>
      obtain ⟨t, e⟩ := r1
      subst e
      exact .cons n t (ih r2)

section
variable {X : Cx} {e : Expr} {te : TE} {lo hi : Option Expr} {tl th : TO} {pos p2 : Pos}

theorem po_none : PO X none tNoPart := by
  intro pins s σ H Q I h
  rw [evalPart_none]
  exact wpAny_pure ⟨none, H, I, .none, h⟩
theorem po_some (h : PE X e te) : PO X (some e) (tPart te) := by
  intro pins s σ H Q I hw
  rw [evalPart_some]
  refine thn (h pins s σ H _ I hw) fun u s1 ⟨x, H1, I1, r1, q1⟩ => ?_
  obtain ⟨i, rfl, q⟩ := q1
  obtain ⟨t, rfl⟩ := r1
  exact ⟨some i, H1, I1, .int i t, q⟩

noncomputable def SlR (X : Cx) (r : V → Option Int → Option Int → Hp → VK → Prop) : Prop :=
  ∀ (pins : List (Addr × Obj)) (s : Shared) (σ : St) (H : Hp) (x : V) (v vl vu : Value) (lo hi : Option Int) (sl : Addr) (Q : VK), Inv X pins σ H s → RelV x v → s.heap.IsSliceOf sl vl vu .none → IsPart vl lo → IsPart vu hi → r x lo hi H Q →
    ∃ T id, typeLookup (.type T) "__getitem__" = pure (some (.builtin id)) ∧ s.TypeIs v T ∧ wpAny (model X.prog X.w) X.A (getItem v (.ref sl)) (EP X pins σ Q) X.xe s
noncomputable def tSl (r : V → Option Int → Option Int → Hp → VK → Prop) (te : TE) (tl th : TO) : TE := fun σ H Q => te σ H fun x H1 => tl σ H1 fun l H2 => th σ H2 fun u H3 => r x l u H3 Q
theorem pe_slice {r : V → Option Int → Option Int → Hp → VK → Prop} (hr : SlR X r) (he : PE X e te) (hl : PO X lo tl) (hu : PO X hi th) : PE X (.Subscript e (.Slice lo hi none p2) pos) (tSl r te tl th) := by
  intro pins s σ H Q I h
  refine Subscript_ (thn (he pins s σ H _ I h) fun v s1 ⟨x, H1, I1, r1, q1⟩ => ?_)
  refine wpAny_Slice (thn (hl pins s1 σ H1 _ I1 q1) fun vl s2 ⟨l, H2, I2, pl, q2⟩ => thn (hu pins s2 σ H2 _ I2 q2) fun vu s3 ⟨u, H3, I3, pu, q3⟩ => ?_)
  rw [evalPart_none]
  refine wpAny_pure ?_
  have I4 : Inv X pins σ H3 { s3 with heap := s3.heap.push { cls := .type "slice", data := .fields #[vl, vu, .none] } } := I3.kept (t' := s3.toks) fun b ob q => Heap.get?_push_of_some _ q
  obtain ⟨T, id, hT, ht, hg⟩ := hr pins { s3 with heap := s3.heap.push { cls := .type "slice", data := .fields #[vl, vu, .none] } } σ H3 x v vl vu l u s3.heap.objs.size Q I4 r1 (Heap.IsSliceOf.new ..) pl pu q3
  show wpAny (model X.prog X.w) X.A (subscriptTail e (.Slice lo hi none p2) v (.ref s3.heap.objs.size)) (EP X pins σ Q) X.xe { s3 with heap := s3.heap.push { cls := .type "slice", data := .fields #[vl, vu, .none] } }
  exact tail_any (ops := [.ref s3.heap.objs.size, v]) ht hT hg (by with_unfolding_all rfl)

noncomputable def cutV (xs : List V) (lo hi : Option Int) : List V := (xs.drop (HT.sIx xs.length 0 lo)).take (HT.sIx xs.length xs.length hi - HT.sIx xs.length 0 lo)
theorem cutV_length (xs : List V) (lo hi : Option Int) : (cutV xs lo hi).length ≤ xs.length := by
  unfold cutV
  rw [List.length_take, List.length_drop]
  (first | lia | omega)

end
end L2

namespace L2
open PySem PySem.Spec PyProof.Rows

noncomputable def ixN (n : Nat) (i : Int) : Option Nat := if 0 ≤ i then (if i < n then some i.toNat else none) else if -(n : Int) ≤ i then some (i + n).toNat else none
noncomputable def atI {α : Type} (xs : List α) (i : Int) : Option α := (ixN xs.length i).bind fun j => xs[j]?
theorem ixN_seq {n : Nat} {i : Int} {j : Nat} (h : ixN n i = some j) : seqIndex? i n = some j ∧ j < n ∧ -(n : Int) ≤ i ∧ i < n := by
  unfold ixN at h
  by_cases h0 : 0 ≤ i
  · rw [if_pos h0] at h
    by_cases h1 : i < n
    · rw [if_pos h1] at h
      have e : i.toNat = j := Option.some.inj h
      exact ⟨by rw [seqIndex_of h0 h1, e], by (first | lia | omega), by (first | lia | omega), h1⟩
    · rw [if_neg h1] at h; cases h
  · rw [if_neg h0] at h
    by_cases h1 : -(n : Int) ≤ i
    · rw [if_pos h1] at h
      have e : (i + n).toNat = j := Option.some.inj h
      exact ⟨by rw [seqIndex_neg (by (first | lia | omega)) h1, e], by (first | lia | omega), h1, by (first | lia | omega)⟩
    · rw [if_neg h1] at h; cases h
theorem atI_get {α : Type} {xs : List α} {i : Int} {v : α} (h : atI xs i = some v) : ∃ j, seqIndex? i xs.length = some j ∧ xs[j]? = some v ∧ j < xs.length ∧ -(xs.length : Int) ≤ i ∧ i < xs.length := by
  unfold atI at h
  cases e : ixN xs.length i with
  | none => rw [e] at h; cases h
  | some j =>
    rw [e] at h
    obtain ⟨h1, h2, h3, h4⟩ := ixN_seq e
    exact ⟨j, h1, h, h2, h3, h4⟩
theorem atI_nat {α : Type} {xs : List α} {j : Nat} {v : α} (h : xs[j]? = some v) : atI xs (j : Int) = some v := by
  have hj : j < xs.length := (List.getElem?_eq_some_iff.mp h).1
  have e : ixN xs.length (j : Int) = some j := by
    unfold ixN
    rw [if_pos (by (first | lia | omega)), if_pos (by (first | lia | omega))]; simp
  unfold atI; rw [e]; exact h
theorem atI_last {α : Type} (xs : List α) (v : α) : atI (xs ++ [v]) (-1) = some v := by
  have hl : (xs ++ [v]).length = xs.length + 1 := by simp
  have e : ixN (xs ++ [v]).length (-1) = some xs.length := by
    unfold ixN
    rw [hl, if_neg (by decide), if_pos (by (first | lia | omega))]
    congr 1
    (first | lia | omega)
  unfold atI
  rw [e]
  show (xs ++ [v])[xs.length]? = some v
  simp

noncomputable def PlainIx (b : Expr) : Prop := ∀ o i, subscripted b false o i = operate [o, i] (getItem o i)
noncomputable def IxR (X : Cx) (r : R2) : Prop :=
  ∀ (value slice : Expr) (pins : List (Addr × Obj)) (s : Shared) (σ : St) (H : Hp) (x y : V) (v u : Value) (Q : VK), Inv X pins σ H s → RelV x v → RelV y u → r x y H Q →
    subscripted slice false v u = operate [v, u] (getItem v u) → wpAny (model X.prog X.w) X.A (subscriptTail value slice v u) (EP X pins σ Q) X.xe s
noncomputable def MtR (X : Cx) (id : String) (r : V → List V → Hp → VK → Prop) : Prop :=
  ∀ (pins : List (Addr × Obj)) (s : Shared) (σ : St) (H : Hp) (x : V) (xs : List V) (v : Value) (us : List Value) (Q : VK), Inv X pins σ H s → RelV x v → Vals xs us → r x xs H Q →
    wpAny (model X.prog X.w) X.A (call (.builtin id) (v :: us)) (EP X pins σ Q) X.xe s
section
variable {X : Cx} {a b : Expr} {ta tb : TE} {pos : Pos}
theorem pe_ix {r : R2} (hr : IxR X r) (ha : PE X a ta) (hb : PE X b tb) (hs : PlainIx b) : PE X (.Subscript a b pos) (tOp r ta tb) := by
  intro pins s σ H Q I h
  exact Subscript_ (binT ha hb I h fun v u s2 x y H2 I2 rx ry q => hr a b pins s2 σ H2 x y v u Q I2 rx ry q (hs _ _))

noncomputable def rIxL (K : PySem.W.Frag) : R2 := fun x y H Q => ∃ p xs i v, x = .ref p ∧ y = .int i ∧ SqL K H p xs ∧ atI xs i = some v ∧ Q v H
noncomputable def rIxT (K : PySem.W.Frag) : R2 := fun x y H Q => ∃ p xs i v, x = .ref p ∧ y = .int i ∧ SqT K H p xs ∧ atI xs i = some v ∧ Q v H
theorem ix_list : IxR X (rIxL X.K) := by
  intro value slice pins s σ H x y v u Q I rx ry h hs
  obtain ⟨p, xs, i, z, rfl, rfl, hq, he, q⟩ := h
  cases rx
  obtain ⟨t, rfl⟩ := ry
  obtain ⟨its, r, pl, hz⟩ := I.list hq
  obtain ⟨j, h1, h2, h3, h4, h5⟩ := atI_get he
  obtain ⟨w, ew, rw'⟩ := r.get h2
  have hl := r.length
  have hn := line63
  have fin : EP X pins σ Q w s := ⟨z, H, I, rw', q⟩
  by_cases h0 : 0 ≤ i
  · have hj : i.toNat = j := by
      rw [seqIndex_of h0 h5] at h1
      exact Option.some.inj h1
    exact item_listR pl.isList h0 (by (first | lia | omega)) (by rw [hj]; simpa using ew) fin hs
  · have hj : (i + (its.toArray.size : Int)).toNat = j := by
      rw [seqIndex_neg (by (first | lia | omega)) h4] at h1
      rw [List.size_toArray, ← hl]
      exact Option.some.inj h1
    exact subscriptTail_builtinR (x := w) pl.isList.typeIs slot_list_getitem.lookup
      (wpAny_getItem_list_neg (Q := fun r s' => r = w ∧ EP X pins σ Q r s') pl.isList (by (first | lia | omega)) (by rw [List.size_toArray] <;> (first | lia | omega)) (by (first | lia | omega)) (by rw [hj]; simpa using ew) ⟨rfl, fin⟩) hs
theorem ix_tup : IxR X (rIxT X.K) := by
  intro value slice pins s σ H x y v u Q I rx ry h hs
  obtain ⟨p, xs, i, z, rfl, rfl, hq, he, q⟩ := h
  cases rx
  obtain ⟨t, rfl⟩ := ry
  obtain ⟨its, r, pl, hz⟩ := I.tuple hq
  obtain ⟨j, h1, h2, h3, h4, h5⟩ := atI_get he
  obtain ⟨w, ew, rw'⟩ := r.get h2
  have hl := r.length
  have hn := line63
  have fin : EP X pins σ Q w s := ⟨z, H, I, rw', q⟩
  exact subscriptTail_builtinR (x := w) pl.typeIs slot_tuple_getitem.lookup
    (getItem_tuple (j := j) (Q := fun r s' => r = w ∧ EP X pins σ Q r s') pl (by (first | lia | omega)) (by (first | lia | omega)) (by rw [List.size_toArray, ← hl]; exact h1) (by simpa using ew) ⟨rfl, fin⟩) hs

theorem mapSeq_set (its : List Value) (n j : Nat) (u : Value) : Obj.mapSeq (·.setIfInBounds j u) { cls := .type "list", data := .seq its.toArray n } = { cls := .type "list", data := .seq (its.set j u).toArray n } := by
  simp [Obj.mapSeq]
theorem Inv.lst {pins : List (Addr × Obj)} {σ : St} {H : Hp} {s : Shared} {p : Addr} {xs : List V} (I : Inv X pins σ H s) (h : H p = some (.lst xs)) :
    ∃ (its : List Value) (n : Nat), Vals xs its ∧ s.heap.get? p = some { cls := .type "list", data := .seq its.toArray n } ∧ xs.length ≤ sizeLine := by
  obtain ⟨z, its, n, r, e⟩ := I.hok p _ h
  exact ⟨its, n, r, e, z⟩
theorem Inv.lstUpd {pins : List (Addr × Obj)} {σ : St} {H : Hp} {s : Shared} {p : Addr} {xs ys : List V} {its its' : List Value} {n n' : Nat} {f : Obj → Obj} (I : Inv X pins σ H s) (h : H p = some (.lst xs))
    (ho : s.heap.get? p = some { cls := .type "list", data := .seq its.toArray n }) (hf : f { cls := .type "list", data := .seq its.toArray n } = { cls := .type "list", data := .seq its'.toArray n' }) (r : Vals ys its') (hz : ys.length ≤ sizeLine) (t : Nat) :
    Inv X pins σ (upd H p (.lst ys)) { s with heap := s.heap.update p f, toks := t } := by
  have e : (s.heap.update p f).get? p = some { cls := .type "list", data := .seq its'.toArray n' } := by
    rw [Heap.get?_update_self f ho (by rw [hf] <;> rfl), hf]
  refine I.write (x := p) (e := p) (by rw [h]; trivial) (.inl rfl) (fun b u hb q => (Heap.get?_update_other _ _ (Ne.symm hb)).trans q) ⟨_, e⟩ ?_
  exact ⟨hz, its', n', r, e⟩
noncomputable def rSetL : V → V → V → Hp → (Hp → Prop) → Prop := fun o i v H Q => ∃ p xs k j, o = .ref p ∧ i = .int k ∧ H p = some (.lst xs) ∧ ixN xs.length k = some j ∧ Q (upd H p (.lst (xs.set j v)))
theorem set_list : PSet X rSetL := by
  intro pins s σ H o i v ov iv u Q I ro ri rv h
  obtain ⟨p, xs, k, j, rfl, rfl, hp, hj, q⟩ := h
  cases ro
  obtain ⟨t, rfl⟩ := ri
  obtain ⟨its, n, r, ho, hz⟩ := I.lst hp
  obtain ⟨h1, h2, h3, h4⟩ := ixN_seq hj
  have hl := r.length
  have hn := line63
  have I' : Inv X pins σ (upd H p (.lst (xs.set j v))) { s with heap := s.heap.update p (Obj.mapSeq (·.setIfInBounds j u)) } :=
    I.lstUpd hp ho (mapSeq_set its n j u) (r.set rv j) (by rw [List.length_set]; exact hz) s.toks
  by_cases h0 : 0 ≤ k
  · have hk : k.toNat = j := by
      rw [seqIndex_of h0 h4] at h1
      exact Option.some.inj h1
    exact PySem.W.ki_setAt ho h0 (by (first | lia | omega)) (by rw [List.size_toArray, ← hl]; exact h4) (by rw [hk]; exact ⟨_, I', q⟩)
  · have hk : (k + (its.toArray.size : Int)).toNat = j := by
      rw [seqIndex_neg (by (first | lia | omega)) h3] at h1
      rw [List.size_toArray, ← hl]
      exact Option.some.inj h1
    exact PySem.W.ki_setBack ho (by (first | lia | omega)) (by rw [List.size_toArray, ← hl]; exact h3) (by (first | lia | omega)) (by rw [hk]; exact ⟨_, I', q⟩)

theorem slice_bounds (lo hi : Option Int) (n : Nat) : (sliceBounds lo hi none n).1 = ((HT.sIx n 0 lo : Nat) : Int) ∧ (sliceBounds lo hi none n).2.1 = ((HT.sIx n n hi : Nat) : Int) ∧ (sliceBounds lo hi none n).2.2 = 1 := by
  refine ⟨?_, ?_, rfl⟩
  · cases lo with
    | none => simp [sliceBounds, HT.sIx]
    | some i =>
      simp only [sliceBounds, HT.sIx, Option.getD_none, show (1 : Int) > 0 by decide, if_true]
      by_cases h : i < 0
      · simp only [h, if_true] <;> (first | lia | omega)
      · simp only [h, if_false] <;> (first | lia | omega)
  · cases hi with
    | none => simp [sliceBounds, HT.sIx]
    | some i =>
      simp only [sliceBounds, HT.sIx, Option.getD_none, show (1 : Int) > 0 by decide, if_true]
      by_cases h : i < 0
      · simp only [h, if_true] <;> (first | lia | omega)
      · simp only [h, if_false] <;> (first | lia | omega)
theorem slicePick_cut (its : List Value) (lo hi : Option Int) : slicePick its.toArray lo hi none = ((its.drop (HT.sIx its.length 0 lo)).take (HT.sIx its.length its.length hi - HT.sIx its.length 0 lo)).toArray := by
  obtain ⟨h1, h2, h3⟩ := slice_bounds lo hi its.toArray.size
  unfold slicePick
  rw [h1, h2, h3]
  simp only [sliceRange_one, pick_run, List.size_toArray] <;> rfl
noncomputable def rSlL (K : PySem.W.Frag) : V → Option Int → Option Int → Hp → VK → Prop := fun x lo hi H Q => ∃ a xs, x = .ref a ∧ SqL K H a xs ∧ ∀ p, H p = none → Q (.ref p) (upd H p (.lst (cutV xs lo hi)))
theorem sl_list : SlR X (rSlL X.K) := by
  intro pins s σ H x v vl vu lo hi sl Q I rx hs pl pu h
  obtain ⟨a, xs, rfl, hx, q⟩ := h
  cases rx
  obtain ⟨its, r, ht, hz⟩ := I.list hx
  have hlen := r.length
  refine ⟨"list", _, slot_list_getitem.lookup, ht.isList.typeIs, ?_⟩
  refine wpAny_getItem_list_slice ht.isList hs pl pu .none (by simp) ?_ (by rw [List.size_toArray] <;> (first | lia | omega))
  rw [slicePick_cut, ← hlen]
  refine ⟨.ref s.heap.objs.size, _, I.laid (t' := s.toks) (o := .lst (cutV xs lo hi)) (fun b ob q => Heap.get?_push_of_some _ q) (Nat.le_refl _) ?_, rfl, q _ (I.hok.fresh (Nat.le_refl _))⟩
  exact ⟨Nat.le_trans (cutV_length xs lo hi) hz, _, 0, (r.drop (HT.sIx xs.length 0 lo)).take (HT.sIx xs.length xs.length hi - HT.sIx xs.length 0 lo), Heap.get?_push_size _ rfl⟩

noncomputable def flatV : V → Bool
  | .non => true
  | .bl _ => true
  | .int _ => true
  | .str _ => true
  | _ => false
noncomputable def eqV : V → V → Bool
  | .non, .non => true
  | .bl a, .bl b => a == b
  | .bl a, .int b => (if a then 1 else 0) == b
  | .int a, .bl b => a == (if b then 1 else 0)
  | .int a, .int b => a == b
  | .str a, .str b => a == b
  | _, _ => false
theorem eqAt_V {A : Around} {s : Shared} {y x : V} {u v : Value} (ry : RelV y u) (rx : RelV x v) (fy : flatV y = true) (fx : flatV x = true) : SeqAt.EqAt A s u v (eqV y x) := by
  cases y with
  | non =>
    cases ry
    cases x with
    | non => cases rx; exact SeqAt.EqAt.same _
    | bl b => cases rx; exact SeqAt.EqAt.none_bool b
    | int b => obtain ⟨t, rfl⟩ := rx; exact SeqAt.EqAt.none_int b t
    | str b => obtain ⟨t, rfl⟩ := rx; exact SeqAt.EqAt.none_str b t
    | _ => exact absurd (show false = true from fx) Bool.false_ne_true
  | bl a =>
    cases ry
    cases x with
    | non => cases rx; exact SeqAt.EqAt.bool_none a
    | bl b => cases rx; exact SeqAt.EqAt.bool_bool a b
    | int b => obtain ⟨t, rfl⟩ := rx; exact SeqAt.EqAt.bool_int a b t
    | str b => obtain ⟨t, rfl⟩ := rx; exact SeqAt.EqAt.bool_str a b t
    | _ => exact absurd (show false = true from fx) Bool.false_ne_true
  | int a =>
    obtain ⟨t', rfl⟩ := ry
    cases x with
    | non => cases rx; exact SeqAt.EqAt.int_none a t'
    | bl b => cases rx; exact SeqAt.EqAt.int_bool a t' b
    | int b => obtain ⟨t, rfl⟩ := rx; exact SeqAt.EqAt.int_int a t' b t
    | str b => obtain ⟨t, rfl⟩ := rx; exact SeqAt.EqAt.int_str a t' b t
    | _ => exact absurd (show false = true from fx) Bool.false_ne_true
  | str a =>
    obtain ⟨t', rfl⟩ := ry
    cases x with
    | non => cases rx; exact SeqAt.EqAt.str_none a t'
    | bl b => cases rx; exact SeqAt.EqAt.str_bool a t' b
    | int b => obtain ⟨t, rfl⟩ := rx; exact SeqAt.EqAt.str_int a t' b t
    | str b => obtain ⟨t, rfl⟩ := rx; exact SeqAt.EqAt.str_str a t' b t
    | _ => exact absurd (show false = true from fx) Bool.false_ne_true
  | _ => exact absurd (show false = true from fy) Bool.false_ne_true
noncomputable def eqU (x : V) (u : Value) : Bool := match u with
  | .none => eqV .non x
  | .bool b => eqV (.bl b) x
  | .int i _ => eqV (.int i) x
  | .str z _ => eqV (.str z) x
  | _ => false
theorem eqU_of {x y : V} {u : Value} (r : RelV y u) (f : flatV y = true) : eqU x u = eqV y x := by
  cases y with
  | non => cases r; rfl
  | bl b => cases r; rfl
  | int i => obtain ⟨t, rfl⟩ := r; rfl
  | str z => obtain ⟨t, rfl⟩ := r; rfl
  | _ => exact absurd (show false = true from f) Bool.false_ne_true
theorem any_eqU {x : V} : ∀ {xs : List V} {us : List Value}, Vals xs us → xs.all flatV = true → us.any (eqU x) = xs.any fun y => eqV y x
  | _, _, .nil, _ => rfl
  | y :: xs, u :: us, .cons r t, f => by
    rw [List.all_cons, Bool.and_eq_true] at f
    rw [List.any_cons, List.any_cons, eqU_of r f.1, any_eqU t f.2]
theorem mem_eqAt {A : Around} {s : Shared} {x : V} {v : Value} (rx : RelV x v) (fx : flatV x = true) : ∀ {xs : List V} {us : List Value}, Vals xs us → xs.all flatV = true → ∀ u ∈ us, SeqAt.EqAt A s u v (eqU x u)
  | _, _, .nil, _ => fun u hu => by cases hu
  | y :: xs, u :: us, .cons r t, f => fun u' hu => by
    rw [List.all_cons, Bool.and_eq_true] at f
    rcases List.mem_cons.mp hu with rfl | hu
    · rw [eqU_of r f.1]; exact eqAt_V r rx f.1 fx
    · exact mem_eqAt rx fx t f.2 u' hu
noncomputable def inV (x : V) (xs : List V) : Bool := xs.any fun y => eqV y x
noncomputable def rIn (K : PySem.W.Frag) (neg : Bool) : R2 := fun x y H Q => ∃ p xs, y = .ref p ∧ (SqL K H p xs ∨ SqT K H p xs) ∧ flatV x = true ∧ xs.all flatV = true ∧ Q (.bl (if neg then !inV x xs else inV x xs)) H
theorem op_in_seq : OpR X (compareOp .In) (rIn X.K false) := by
  intro pins s σ H x y v u Q I rx ry h
  obtain ⟨p, xs, rfl, hq, fx, fs, q⟩ := h
  cases ry
  rcases hq with hq | hq
  · obtain ⟨its, r, pl, hz⟩ := I.list hq
    refine SeqAt.in_listAt (eqU x) pl.isList (fun w hw => mem_eqAt rx fx r fs w (by simpa using hw)) ⟨.bl _, H, I, rfl, ?_⟩
    rw [show its.toArray.any (eqU x) = its.any (eqU x) by simp, any_eqU r fs]
    exact q
  · obtain ⟨its, r, pl, hz⟩ := I.tuple hq
    refine SeqAt.in_tupleAt (eqU x) pl (fun w hw => mem_eqAt rx fx r fs w (by simpa using hw)) ⟨.bl _, H, I, rfl, ?_⟩
    rw [show its.toArray.any (eqU x) = its.any (eqU x) by simp, any_eqU r fs]
    exact q
theorem op_notIn_seq : OpR X (compareOp .NotIn) (rIn X.K true) := by
  intro pins s σ H x y v u Q I rx ry h
  obtain ⟨p, xs, rfl, hq, fx, fs, q⟩ := h
  cases ry
  rcases hq with hq | hq
  · obtain ⟨its, r, pl, hz⟩ := I.list hq
    refine SeqAt.notIn_listAt (eqU x) pl.isList (fun w hw => mem_eqAt rx fx r fs w (by simpa using hw)) ⟨.bl _, H, I, rfl, ?_⟩
    rw [show its.toArray.any (eqU x) = its.any (eqU x) by simp, any_eqU r fs]
    exact q
  · obtain ⟨its, r, pl, hz⟩ := I.tuple hq
    refine SeqAt.notIn_tupleAt (eqU x) pl (fun w hw => mem_eqAt rx fx r fs w (by simpa using hw)) ⟨.bl _, H, I, rfl, ?_⟩
    rw [show its.toArray.any (eqU x) = its.any (eqU x) by simp, any_eqU r fs]
    exact q

theorem call_len_seq : CallR X (.builtin "len") (fun xs H Q => ∃ p ys, xs = [.ref p] ∧ (SqL X.K H p ys ∨ SqT X.K H p ys) ∧ Q (.int ys.length) H) := by
  intro pins s σ H xs us Q I r h
  obtain ⟨p, ys, rfl, hq, q⟩ := h
  obtain ⟨u, rfl, rx⟩ := vals1 r
  cases rx
  have hn := line63
  rcases hq with hq | hq
  · obtain ⟨its, r', pl, hz⟩ := I.list hq
    have hlen := r'.length
    exact Calls.call_len_list pl.isList (by simp only [List.size_toArray] <;> (first | lia | omega)) ⟨.int ys.length, H, I.tok _, ⟨s.toks + 1, by rw [List.size_toArray, hlen]⟩, q⟩
  · obtain ⟨its, r', pl, hz⟩ := I.tuple hq
    have hlen := r'.length
    exact len_tuple pl (by simp only [List.size_toArray] <;> (first | lia | omega)) ⟨.int ys.length, H, I.tok _, ⟨s.toks + 1, by rw [List.size_toArray, hlen]⟩, q⟩
theorem call_list_of : CallR X (.type "list") (fun xs H Q => ∃ p ys, xs = [.ref p] ∧ (SqL X.K H p ys ∨ SqT X.K H p ys) ∧ ∀ l, H l = none → Q (.ref l) (upd H l (.lst ys))) := by
  intro pins s σ H xs us Q I r h
  obtain ⟨p, ys, rfl, hq, q⟩ := h
  obtain ⟨u, rfl, rx⟩ := vals1 r
  cases rx
  have fin : ∀ (its : List Value), Vals ys its → ys.length ≤ sizeLine → ∀ (h' : Heap) (c' : Nat), (∀ b o', s.heap.get? b = some o' → h'.get? b = some o') →
      h'.get? s.heap.objs.size = some { cls := .type "list", dict := none, data := .seq its.toArray c', slots := #[] } → EP X pins σ Q (.ref s.heap.objs.size) { s with heap := h' } := fun its r' hz h' c' kp e =>
    ⟨.ref s.heap.objs.size, _, I.laid (t' := s.toks) kp (Nat.le_refl _) (show ObjOk X.prog X.w _ h' _ (.lst ys) from ⟨hz, its, c', r', e⟩), rfl, q _ (I.hok.fresh (Nat.le_refl _))⟩
  rcases hq with hq | hq
  · obtain ⟨its, r', pl, hz⟩ := I.list hq
    have hlen := r'.length
    obtain ⟨o, ho, hc, n, hd⟩ := pl.isList
    exact call_list_seq p (.inl rfl) ho hc hd (fun h' c' kp e => fin its r' hz h' c' kp e) (by simp only [List.size_toArray] <;> (first | lia | omega))
  · obtain ⟨its, r', pl, hz⟩ := I.tuple hq
    have hlen := r'.length
    obtain ⟨o, ho, hc, n, hd⟩ := pl
    exact call_list_seq p (.inr rfl) ho hc hd (fun h' c' kp e => fin its r' hz h' c' kp e) (by simp only [List.size_toArray] <;> (first | lia | omega))

noncomputable def tyV (K : PySem.W.Frag) (T : String) (x : V) (H : Hp) : Prop := match x with
  | .str _ => T = "str"
  | .int _ => T = "int"
  | .ref p => (T = "list" ∧ ∃ xs, SqL K H p xs) ∨ (T = "tuple" ∧ ∃ o, K.lookup p = some o ∧ o.cls = .type "tuple" ∧ o.dict = none) ∨
      (T = "dict" ∧ ((∃ kvs, H p = some (.dK kvs)) ∨ ∃ kvs, H p = some (.dT kvs))) ∨ (T = "set" ∧ ∃ S n, H p = some (.set S n))
  | _ => False
theorem tyV_is {pins : List (Addr × Obj)} {σ : St} {H : Hp} {s : Shared} {T : String} {x : V} {v : Value} (I : Inv X pins σ H s) (r : RelV x v) (ty : tyV X.K T x H) :
    s.TypeIs v T ∧ ∀ a, v = .ref a → ∃ ob, s.heap.get? a = some ob ∧ ob.dict = none := by
  cases x with
  | str z =>
    obtain ⟨t, rfl⟩ := r
    cases (show T = "str" from ty)
    exact ⟨typeIs_str s z t, fun _ e => nomatch e⟩
  | int i =>
    obtain ⟨t, rfl⟩ := r
    cases (show T = "int" from ty)
    exact ⟨typeIs_int s i t, fun _ e => nomatch e⟩
  | ref p =>
    cases r
    rcases ty with ⟨rfl, xs, hq⟩ | ⟨rfl, o, hk, hc, hd⟩ | ⟨rfl, hk⟩ | ⟨rfl, S, n, hk⟩
    · obtain ⟨its, _, pl, _⟩ := I.list hq
      refine ⟨pl.isList.typeIs, fun a e => ?_⟩
      cases e
      obtain ⟨o, n, e, c, hd, _⟩ := pl
      exact ⟨o, e, hd⟩
    · refine ⟨⟨o, I.kIn p o hk, hc⟩, fun a e => ?_⟩
      cases e
      exact ⟨o, I.kIn _ o hk, hd⟩
    · have z : ∃ o, s.heap.get? p = some o ∧ o.ExactDict := by
        rcases hk with ⟨kvs, hk⟩ | ⟨kvs, hk⟩
        · obtain ⟨_, _, _, _, o, _, _, e, ex, _⟩ := I.hok p _ hk
          exact ⟨o, e, ex⟩
        · obtain ⟨_, _, _, _, o, _, _, e, ex, _⟩ := I.hok p _ hk
          exact ⟨o, e, ex⟩
      obtain ⟨o, e, ex⟩ := z
      refine ⟨⟨o, e, ex.1⟩, fun a e2 => ?_⟩
      cases e2
      exact ⟨o, e, ex.2.1⟩
    · obtain ⟨o, _, _, _, e, ex, _⟩ := I.hok p _ hk
      refine ⟨⟨o, e, ex.1⟩, fun a e2 => ?_⟩
      cases e2
      exact ⟨o, e, ex.2.1⟩
  | _ => exact False.elim ty
noncomputable def tBM0 (K : PySem.W.Frag) (T : String) (r : V → List V → Hp → VK → Prop) (to : TE) : TE := fun σ H Q => to σ H fun x H1 => tyV K T x H1 ∧ r x [] H1 Q
noncomputable def tBM (K : PySem.W.Frag) (T : String) (r : V → List V → Hp → VK → Prop) (to : TE) (t : TA) : TE := fun σ H Q => to σ H fun x H1 => tyV K T x H1 ∧ t σ H1 fun xs H2 => r x xs H2 Q
variable {o e : Expr} {es : List Expr} {to : TE} {t : TA} {name : Str} {apos cpos : Pos} {T id : String} {r : V → List V → Hp → VK → Prop}
theorem pe_bm0 (pa : PlainAttrs T) (slot : Slot T name id) (hty : typeOf (.builtin id) = pure (.type "method_descriptor")) (hm : MtR X id r) (ho : PE X o to)
    (hbase : attributeBase o name X.env (eval o X.env) = eval o X.env := by rfl) (hline : (apos.endLine == cpos.line) = true := by rfl) : PE X (.Call (.Attribute o name apos) [] [] cpos) (tBM0 X.K T r to) := by
  intro pins s σ H Q I h
  refine wpAny_Call_method0_late hbase hline (thn (ho pins s σ H _ I h) fun v s1 ⟨x, H1, I1, r1, ty, q1⟩ => ?_)
  obtain ⟨h1, h2⟩ := tyV_is I1 r1 ty
  exact ⟨T, id, pa, slot, hty, h1, h2, Calls.callWith_builtin rfl (PySem.evalArgs_none (hm pins s1 σ H1 x [] v [] Q I1 r1 .nil q1))⟩
theorem pe_bm (pa : PlainAttrs T) (slot : Slot T name id) (hty : typeOf (.builtin id) = pure (.type "method_descriptor")) (hm : MtR X id r) (ho : PE X o to) (ha : PA X (e :: es) t)
    (hbase : attributeBase o name X.env (eval o X.env) = eval o X.env := by rfl)
    (hfew : ((backTo cpos (starEach (e :: es) X.env)).all (fun x => !x.1) && (backToKw cpos (keywordEach [] X.env)).all (fun x => x.1.isSome)
      && decide ((e :: es).length + ([] : List Keyword).length + (if ([] : List Keyword).isEmpty then 0 else 1) < 30)) = true := by rfl)
    (hline : (apos.endLine == cpos.line) = true := by rfl) (hs : starEach (e :: es) X.env = (false, eval e X.env) :: starEach es X.env := by rfl) (hplain : (backTo cpos (starEach es X.env)).any (·.1) = false := by rfl) :
    PE X (.Call (.Attribute o name apos) (e :: es) [] cpos) (tBM X.K T r to t) := by
  intro pins s σ H Q I h
  refine wpAny_Call_method_late hbase hfew hline rfl (thn (ho pins s σ H _ I h) fun v s1 ⟨x, H1, I1, r1, ty, q1⟩ => ?_)
  obtain ⟨h1, h2⟩ := tyV_is I1 r1 ty
  refine ⟨T, id, pa, slot, hty, h1, h2, ?_⟩
  have hA := ha cpos pins s1 σ H1 _ I1 q1
  rw [hs] at hA ⊢
  refine Calls.callWith_builtin (by show (false || (backTo cpos (starEach es X.env)).any (·.1)) = false; rw [hplain] <;> rfl) (Calls.evalArgs_plain ?_)
  exact thn hA fun us s2 ⟨vs, H2, I2, r2, q2⟩ => hm pins s2 σ H2 x vs v us Q I2 r1 r2 q2
/- xs.append(e), list.index on a module's tuple .. are MtR facts of 06m -/
end
end L2

namespace L2
open PySem PySem.Spec PyProof.Rows

noncomputable def MtM (X : Cx) (id : String) (r : V → List V → Hp → VK → Prop) : Prop :=
  ∀ (pins : List (Addr × Obj)) (s : Shared) (σ : St) (H : Hp) (x : V) (xs : List V) (v : Value) (us : List Value) (Q : VK), Inv X pins σ H s → RelV x v → Vals xs us → r x xs H Q →
    wpAny (model X.prog X.w) X.A (call (.builtin id) (v :: us)) (EP X pins σ Q) X.xe s

theorem Vals.one : ∀ {x : V} {us : List Value}, Vals [x] us → ∃ u, us = [u] ∧ RelV x u
  | _, _, .cons r .nil => ⟨_, rfl, r⟩
theorem Vals.zero : ∀ {us : List Value}, Vals [] us → us = []
  | _, .nil => rfl
theorem Vals.dropLast {xs : List V} {us : List Value} (h : Vals xs us) : Vals xs.dropLast us.dropLast := by
  induction h with
  | nil => exact .nil
  | cons r t ih =>
    cases t with
    | nil => exact .nil
    | cons q t' => exact .cons r ih
theorem Vals.reverse {xs : List V} {us : List Value} (h : Vals xs us) : Vals xs.reverse us.reverse := by
  induction h with
  | nil => exact .nil
  | cons r t ih => rw [List.reverse_cons, List.reverse_cons]; exact Vals.append ih (.cons r .nil)
theorem Vals.rep {xs : List V} {us : List Value} (h : Vals xs us) : ∀ k : Nat, Vals (List.replicate k xs).flatten (List.replicate k us).flatten
  | 0 => .nil
  | k + 1 => by
    rw [List.replicate_succ, List.replicate_succ, List.flatten_cons, List.flatten_cons]
    exact Vals.append h (Vals.rep h k)
theorem erase_last {α : Type} (l : List α) : l.eraseIdx (l.length - 1) = l.dropLast := by
  induction l with
  | nil => rfl
  | cons a r ih =>
    cases r with
    | nil => rfl
    | cons b r =>
      have e : (a :: b :: r).length - 1 = ((b :: r).length - 1) + 1 := by
        have h1 : (a :: b :: r).length = r.length + 2 := rfl
        have h2 : (b :: r).length = r.length + 1 := rfl
        (first | lia | omega)
      rw [e, List.eraseIdx_cons_succ, ih]
      all_goals rfl
theorem foldl_rep (its : List Value) : ∀ (k : Nat) (acc : List Value),
    List.foldl (fun x1 x2 => x1 ++ x2) acc.toArray (List.replicate k its.toArray) = (acc ++ (List.replicate k its).flatten).toArray
  | 0, acc => by simp
  | k + 1, acc => by
    have e : acc.toArray ++ its.toArray = (acc ++ its).toArray := by simp
    have e2 : (acc ++ its) ++ (List.replicate k its).flatten = acc ++ (List.replicate (k + 1) its).flatten := by
      rw [List.replicate_succ, List.flatten_cons, List.append_assoc]
    rw [← e2, ← foldl_rep its k (acc ++ its), ← e, List.replicate_succ, List.foldl_cons]

section
variable {X : Cx} {pins : List (Addr × Obj)} {σ : St} {H : Hp} {s : Shared} {l b : Addr} {xs ys zs : List V}

theorem Inv.lset {its its' : List Value} {n : Nat} {f : Array Value → Array Value} {t' : Nat} (I : Inv X pins σ H s) (hH : H l = some (.lst xs))
    (e : s.heap.get? l = some { cls := .type "list", data := .seq its.toArray n }) (hf : f its.toArray = its'.toArray) (hv : Vals ys its') (hz : ys.length ≤ sizeLine) :
    Inv X pins σ (upd H l (.lst ys)) { s with heap := s.heap.update l (Obj.mapSeq f), toks := t' } := by
  have q := PySem.IsL.update e f
  rw [hf] at q
  refine I.write (x := l) (e := l) (by rw [hH]; exact trivial) (.inl rfl) (fun b' u hb hu => (Heap.get?_update_other s.heap (Obj.mapSeq f) (Ne.symm hb)).trans hu) ⟨_, q⟩ ?_
  exact ⟨hz, its', _, hv, q⟩
theorem Inv.lnew {its : List Value} {t' : Nat} (I : Inv X pins σ H s) (hv : Vals ys its) (hz : ys.length ≤ sizeLine) :
    Inv X pins σ (upd H s.heap.objs.size (.lst ys)) { s with heap := s.heap.push { cls := .type "list", data := .seq its.toArray }, toks := t' } :=
  I.laid (fun _ _ q => Heap.get?_push_of_some _ q) (Nat.le_refl _) ⟨hz, its, 0, hv, Heap.get?_push_size _ rfl⟩
theorem Inv.fresh (I : Inv X pins σ H s) : H s.heap.objs.size = none := I.hok.fresh (Nat.le_refl _)
theorem Inv.lstM (I : Inv X pins σ H s) (hH : H l = some (.lst xs)) : xs.length ≤ sizeLine ∧ ∃ (its : List Value) (n : Nat), Vals xs its ∧ xs.length = its.length ∧ s.heap.get? l = some { cls := .type "list", data := .seq its.toArray n } := by
  obtain ⟨z, its, n, r, e⟩ := I.hok l _ hH
  exact ⟨z, its, n, r, r.length, e⟩

theorem notLongL {n : Nat} (h : n ≤ sizeLine) : Builtin.List.listTooLong n = false := by
  unfold Builtin.List.listTooLong
  exact decide_eq_false (by (first | lia | omega))
end

section
variable {X : Cx}

noncomputable def rAppend : V → List V → Hp → VK → Prop := fun x vs H Q => ∃ l xs y, x = .ref l ∧ vs = [y] ∧ H l = some (.lst xs) ∧ xs.length < sizeLine ∧ Q .non (upd H l (.lst (xs ++ [y])))
theorem mt_append : MtM X "list.append" rAppend := by
  intro pins s σ H x vs v us Q I rx rv h
  obtain ⟨l, xs, y, rfl, rfl, hH, hz, q⟩ := h
  cases rx
  obtain ⟨u, rfl, ru⟩ := rv.one
  obtain ⟨z, its, n, r, hl, e⟩ := I.lstM hH
  refine call_meets F.slot_list_append ⟨_, e, rfl⟩ F.entry_list_append (F.args_list_append_2 _ _) (PySem.list_append l its.toArray n u (by rw [List.size_toArray]; (first | lia | omega))) ⟨e, ?_⟩
  refine ⟨.non, _, I.lset (its' := its ++ [u]) hH e (by simp) (r.append (.cons ru .nil)) ?_, rfl, q⟩
  rw [List.length_append, List.length_singleton]
  (first | lia | omega)

noncomputable def rExtend : V → List V → Hp → VK → Prop := fun x vs H Q => ∃ l b xs zs, x = .ref l ∧ vs = [.ref b] ∧ H l = some (.lst xs) ∧ H b = some (.lst zs) ∧ xs.length + zs.length ≤ sizeLine ∧ Q .non (upd H l (.lst (xs ++ zs)))
theorem mt_extend : MtM X "list.extend" rExtend := by
  intro pins s σ H x vs v us Q I rx rv h
  obtain ⟨l, b, xs, zs, rfl, rfl, hH, hB, hz, q⟩ := h
  cases rx
  obtain ⟨u, rfl, ru⟩ := rv.one
  cases ru
  obtain ⟨z, its, n, r, hl, e⟩ := I.lstM hH
  obtain ⟨z2, its2, n2, r2, hl2, e2⟩ := I.lstM hB
  have hsz : its.toArray.size + its2.toArray.size ≤ sizeLine := by rw [List.size_toArray, List.size_toArray]; (first | lia | omega)
  have hlong : ¬ (!its.toArray.isEmpty && Builtin.List.listTooLong (its.toArray.size + its2.toArray.size)) = true := by
    rw [notLongL hsz, Bool.and_false]
    exact Bool.false_ne_true
  refine call_meets F.slot_list_extend ⟨_, e, rfl⟩ F.entry_list_extend (F.args_list_extend_2 _ _)
    (AutoSeq1.list_extend_list_list_0 l its.toArray n b its2.toArray n2 hlong (by rw [List.size_toArray]; (first | lia | omega)) (by (first | lia | omega))) ⟨e, e2, ?_⟩
  refine ⟨.non, _, I.lset (its' := its ++ its2) hH e (by simp) (r.append r2) ?_, rfl, q⟩
  rw [List.length_append]
  (first | lia | omega)

noncomputable def rPop : V → List V → Hp → VK → Prop := fun x vs H Q => ∃ l xs y, x = .ref l ∧ vs = [] ∧ H l = some (.lst xs) ∧ xs[xs.length - 1]? = some y ∧ Q y (upd H l (.lst xs.dropLast))
theorem mt_pop : MtM X "list.pop" rPop := by
  intro pins s σ H x vs v us Q I rx rv h
  obtain ⟨l, xs, y, rfl, rfl, hH, hy, q⟩ := h
  cases rx
  have hus := rv.zero
  subst hus
  obtain ⟨z, its, n, r, hl, e⟩ := I.lstM hH
  obtain ⟨u, hu, ru⟩ := r.get hy
  have hy' : its.toArray[its.toArray.size - 1]? = some u := by
    show its.toArray[its.length - 1]? = some u
    rw [← Array.getElem?_toList, ← hl]
    exact hu
  refine call_meets F.slot_list_pop ⟨_, e, rfl⟩ F.entry_list_pop (F.args_list_pop_1 _) (MeetsSeq.list_pop_last l its.toArray n u hy' (by rw [List.size_toArray]; (first | lia | omega))) ⟨e, ?_⟩
  refine ⟨y, _, I.lset (its' := its.dropLast) hH e ?_ r.dropLast ?_, ru, q⟩
  · show its.toArray.eraseIdxIfInBounds (its.toArray.size - 1) = its.dropLast.toArray
    rw [List.size_toArray, List.eraseIdxIfInBounds_toArray, erase_last]
  · rw [List.length_dropLast]
    (first | lia | omega)




noncomputable def rCat : R2 := fun x y H Q => ∃ l b xs zs, x = .ref l ∧ y = .ref b ∧ H l = some (.lst xs) ∧ H b = some (.lst zs) ∧ xs.length + zs.length ≤ sizeLine ∧ ∀ p, H p = none → Q (.ref p) (upd H p (.lst (xs ++ zs)))
theorem op_cat : OpR X (binaryOp .Add) rCat := by
  intro pins s σ H x y v u Q I rx ry h
  obtain ⟨l, b, xs, zs, rfl, rfl, hH, hB, hz, q⟩ := h
  cases rx
  cases ry
  obtain ⟨z, its, n, r, hl, e⟩ := I.lstM hH
  obtain ⟨z2, its2, n2, r2, hl2, e2⟩ := I.lstM hB
  refine PySem.P.add_list e e2 ?_ (by rw [List.size_toArray, List.size_toArray]; (first | lia | omega))
  have ea : its.toArray ++ its2.toArray = (its ++ its2).toArray := by simp
  rw [ea]
  exact ⟨.ref _, _, I.lnew (t' := s.toks) (r.append r2) (by rw [List.length_append]; (first | lia | omega)), rfl, q _ I.fresh⟩
noncomputable def rRep : R2 := fun x y H Q => ∃ l k xs, x = .ref l ∧ y = .int k ∧ H l = some (.lst xs) ∧ -(2 ^ 63) ≤ k ∧ k < 2 ^ 63 ∧ xs.length * k.toNat ≤ sizeLine ∧
  ∀ p, H p = none → Q (.ref p) (upd H p (.lst (List.replicate k.toNat xs).flatten))
theorem len_rep {α : Type} (xs : List α) (k : Nat) : (List.replicate k xs).flatten.length = k * xs.length := by
  induction k with
  | zero => simp
  | succ k ih => rw [List.replicate_succ, List.flatten_cons, List.length_append, ih, Nat.succ_mul, Nat.add_comm]
theorem op_rep : OpR X (binaryOp .Mult) rRep := by
  intro pins s σ H x y v u Q I rx ry h
  obtain ⟨l, k, xs, rfl, rfl, hH, h1, h2, hz, q⟩ := h
  cases rx
  obtain ⟨t, rfl⟩ := ry
  obtain ⟨z, its, n, r, hl, e⟩ := I.lstM hH
  have hlen : its.toArray.size * k.toNat ≤ sizeLine := by rw [List.size_toArray, ← hl]; exact hz
  have hcap : ¬ its.toArray.size * k.toNat > (2 ^ 63 - 1) / 8 := by
    have : (sizeLine : Nat) ≤ (2 ^ 63 - 1) / 8 := by decide
    (first | lia | omega)
  have hfit : ¬ (!Builtin.List.listFitsIndex k) = true := by
    rw [fitsIndex_both h1 h2]
    exact Bool.false_ne_true
  have hlong : ¬ Builtin.List.listTooLong (its.toArray.size * k.toNat) = true := by
    rw [notLongL hlen]
    exact Bool.false_ne_true
  have hnew : List.foldl (fun x1 x2 => x1 ++ x2) #[] (List.replicate (if its.toArray.isEmpty = true then 0 else k.toNat) its.toArray) = (List.replicate k.toNat its).flatten.toArray := by
    have f0 : ∀ m : Nat, List.foldl (fun x1 x2 => x1 ++ x2) #[] (List.replicate m its.toArray) = (List.replicate m its).flatten.toArray := fun m => by
      have := foldl_rep its m []
      rw [List.nil_append] at this
      exact this
    rw [f0]
    cases its with
    | nil => simp
    | cons a r' => rw [if_neg (by simp)]
  refine wpAny_binaryOp_repeat_ref (T := "list") (U := "int") (by decide) ⟨_, e, rfl⟩ (fun s' => typeIs_int s' k t) noFill_list_mul F.fills_int_mul F.slot_int_rmul repeat_list F.slot_int_index.lookup
    (call_meets F.slot_int_rmul (typeIs_int s k t) F.entry_int_rmul (F.args_int_rmul_2 _ _) (int___rmul___int_list k t l its.toArray n)
      ⟨e, rfl, ⟨_, e, rfl⟩, call_meets F.slot_list_mul ⟨_, e, rfl⟩ F.entry_list_mul (F.args_list_mul_2 _ _) (AutoListH.list___mul___list_int_3 l its.toArray n k t hfit hcap hlong) ⟨e, ?_⟩⟩)
  rw [hnew]
  exact ⟨.ref _, _, I.lnew (t' := s.toks) (r.rep k.toNat) (by rw [len_rep, Nat.mul_comm]; exact hz), rfl, q _ I.fresh⟩

end

section
variable {prog : Program} {w : World} {A : Around} {E : Value → Shared → Prop} {s : Shared}
set_option maxRecDepth 100000 in
end

section
variable {X : Cx}
end
end L2

namespace Att
open PySem PySem.W PySem.Calls PyProof.Rows

theorem ints_of_wellAll {P : Params} {h : Heap} : ∀ (ns : List Int) (vs : List Value), WellAll P h vs (ns.map WData.int) → IntsAre vs ns := by
  intro ns
  induction ns with
  | nil =>
    intro vs w
    rw [List.map_nil] at w
    cases w
    exact .nil
  | cons n ns ih =>
    intro vs w
    rw [List.map_cons] at w
    cases w with
    | cons a b =>
      cases a
      exact .cons _ _ (ih _ b)

theorem script_of {l : OpenLaw} {n : Nat} (hn : l.most = some n) {P : Params} {h : Heap} {args : List WData} {vals : List Value}
    (hpre : l.row.toRowW.claim.pre args = true) (hwl : WellAll P h vals args) :
    ∃ a vs ns, vals = [Value.ref a] ∧ args = [WData.list (ns.map WData.int)] ∧ h.get? a = some { cls := .type "list", data := .seq vs.toArray } ∧ IntsAre vs ns ∧ ns.length ≤ n := by
  have hsh : WShape.hasAll [] args [.list .int] = true := (pre_splitW hpre).1
  have hc : l.pre.holds [] { args := args } = true := (pre_splitW hpre).2
  obtain ⟨d, r, rfl, h1, h2⟩ := hasAllW_cons hsh
  obtain rfl := hasAllW_nil h2
  obtain ⟨xs, rfl, h3⟩ := hasW_list h1
  obtain ⟨ns, rfl⟩ := items_int h3
  have hlen : ns.length ≤ n := by
    unfold OpenLaw.pre at hc
    have h4 : (WTm.not (.lt (.lit (.int (n : Int))) (.len (.arg 0)))).holds [] { args := [.list (ns.map .int)] } = true := by
      have h4 := (holds_andW hc).1
      rw [hn] at h4
      exact h4
    have h5 := condW_of h4 (w_not (w_lt w_lit (w_len_list (w_arg rfl))))
    rw [List.length_map] at h5
    refine Nat.le_of_not_lt fun q => ?_
    have q' : (n : Int) < ((ns.length : Nat) : Int) := by (first | lia | omega)
    first
      | (rw [decide_eq_true q'] at h5; exact absurd h5 (by decide))
      | (simp at h5; (first | lia | omega))
  cases hwl with
  | cons w1 w2 =>
    cases w2
    cases w1 with
    | list ho hall => exact ⟨_, _, ns, rfl, rfl, ho, ints_of_wellAll ns _ hall, hlen⟩

theorem post_true (l : OpenLaw) (args : List WData) : l.row.toRowW.claim.post args (.bool true) args = true :=
  postW_of (r := l.row.toRowW) (X := (true == true))
    (show WShape.has [] (.bool true) .bool = true by first | rfl | decide | simp [WShape.has, WShape.arms, WShape.armsAll])
    (show (WTm.eq .res (.lit (.bool true))).value [] { args := args, res := some (.bool true), after := args } = some (.bool (true == true)) from w_eq_bool (w_res rfl) w_lit) rfl


theorem attach_call {l : OpenLaw} {n : Nat} {q : Program} {loose : List Str} {XP : (Str → Option Value) → Heap → Prop} {YP : World → Heap → Prop} {d : DefRec}
    (hn : l.most = some n) (hdf : d.params.defaults = [])
    (call : ∀ (w : World) (s₀ s₁ : Shared) (mg mb : Str → Option Value) (fa : Addr) (o : Obj) (pm cd doc : Value) (a : Addr) (vs : List Value) (ns : List Int),
      Ground q loose [] XP w s₀ mg mb s₁.heap → YP w s₁.heap →
      s₁.heap.get? fa = some o → o.data = .func (docDef d.name d.params d.body d.scope pm cd doc) → s₁.heap.CodeRec cd d.name → mg d.name = some (.ref fa) →
      s₁.heap.get? a = some { cls := .type "list", data := .seq vs.toArray } → IntsAre vs ns → ns.length ≤ n → s₁.gens = #[] →
      codeAny (model l.prog w) callerA (.call (.ref fa) ⟨[.ref a], []⟩) (fun r s' => r = .ok (.ret (.bool true)) ∧ OldK s₁.heap s'.heap ∧ s'.os = s₁.os ∧ AllBare s'.gens) s₁) :
    WalkO q loose XP YP l.row.toRowW d [] (fun f vs => PySem.call f vs) := by
  intro w s₀ s₁ mg mb G Y fa o pm cd doc dV kV ho hd hcd hD hmg hg args vals as hpre hlay hrd hwl hlo
  obtain rfl : dV = .none := Dflts.none hD hdf
  obtain rfl : kV = .none := Dflts.noKw hD
  obtain ⟨a, vs, ns, rfl, rfl, hobj, hints, hlen⟩ := script_of hn hpre hwl
  refine enter_call (codeAny_mono (call w s₀ s₁ mg mb fa o pm cd doc a vs ns G Y ho (fd_plain hd) hcd hmg hobj hints hlen hg) fun r s' hq => ?_)
  obtain ⟨rfl, h2, h3, h4⟩ := hq
  exact ⟨.inl ⟨.bool true, .bool true, [], rfl, fun _ => rfl, .bool true, post_true l _, fun _ => ⟨List.Pairwise.nil, fun _ hm => (nomatch hm)⟩⟩, h2, h3, h4⟩


section
variable {prog : Program} {w : World} {A : Around} {E : Value → Shared → Prop} {s : Shared} {K : Frag}






end
end Att

namespace L2
open PySem PySem.Spec PyProof.Rows

theorem vals_ints : ∀ {vs : List Value} {ns : List Int}, IntsAre vs ns → Vals (ns.map V.int) vs
  | _, _, .nil => .nil
  | _, _, .cons n t h => .cons ⟨t, rfl⟩ (vals_ints h)

noncomputable def Only (H : Hp) : Prop := ∀ b, H b = none ∨ ∃ o xs, H b = some (.frz o (.lst xs))

theorem law_call {P : Program} {w : World} {K : PySem.W.Frag} {mg mb : Str → Option Value} {CX : CXT} {k : Nat} {fa a : Addr} {fd : FuncData} {x : Str} {sp : Sp} {s₁ : Shared} {vs : List Value} {ns : List Int}
    (KX : K.In s₁.heap) (hns : s₁.heap.Ns mainGlobals mg) (hb : s₁.heap.Ns builtinsNs mb) (hbb : ∀ x : Str, x ≠ "__name__" → mb x = bootBuiltins x) (hlim : s₁.heap.NoLimit) (hg : s₁.gens = #[])
    (ha : s₁.heap.get? a = some { cls := .type "list", data := .seq vs.toArray }) (hi : IntsAre vs ns) (hl : ns.length ≤ sizeLine) (hr : Room k callerA)
    (F : ∀ base : Heap, K.In base → base.Ns mainGlobals mg → FnOk P w K mg base CX k fa fd [x] sp) (hbind : ∀ (s : Shared) (u : Value), BindsTo s fd ⟨[u], []⟩ [(x, u)])
    (hsp : ∀ H : Hp, Only H → SqL K H a (ns.map V.int) → sp [.ref a] H (fun v _ => v = .bl true) fun _ _ _ => False)
    (hCX : ∀ H e s', CX [] H s₁ (fun _ _ _ => False) e s' → False) :
    codeAny (model P w) callerA (.call (.ref fa) ⟨[.ref a], []⟩) (fun r s' => r = .ok (.ret (.bool true)) ∧ OldK s₁.heap s'.heap ∧ s'.os = s₁.os ∧ AllBare s'.gens) s₁ := by
  have rv := vals_ints hi
  have lenV := hi.length
  -- from an abstract heap in which nothing but the script may be tracked
  have core : ∀ H : Hp, Only H → SqL K H a (ns.map V.int) → HOk P w H s₁.heap → (∀ b, H b ≠ none → b = a) → (H a ≠ none → K.lookup a = none) →
      codeAny (model P w) callerA (.call (.ref fa) ⟨[.ref a], []⟩) (fun r s' => r = .ok (.ret (.bool true)) ∧ OldK s₁.heap s'.heap ∧ s'.os = s₁.os ∧ AllBare s'.gens) s₁ := by
    intro H hO hS hok hA hK
    have base_of : ∀ {b : Addr} {o : Obj}, s₁.heap.get? b = some o → H b = none → (hidT s₁.heap H).get? b = some o := fun e n => hidT_get e n
    have noA : ∀ {b : Addr} {o : Obj} {es : Array DictEntry} {ep : Nat}, s₁.heap.get? b = some o → o.data = .dict es ep → H b = none := fun {b o es ep} e d => by
      cases q : H b with
      | none => rfl
      | some u =>
        have e' : b = a := hA b (by rw [q]; simp)
        subst e'
        rw [ha] at e; cases e
        have d' : Data.seq vs.toArray _ = Data.dict es ep := d
        cases d'
    have nsK : ∀ {b : Addr} {m : Str → Option Value}, s₁.heap.Ns b m → (hidT s₁.heap H).Ns b m := fun {b m} ⟨o, es, ep, e, d, r⟩ => ⟨o, es, ep, base_of e (noA e d), d, r⟩
    have hKb : K.In (hidT s₁.heap H) := fun b o e => base_of (KX b o e) (by
      cases q : H b with
      | none => rfl
      | some u =>
        have e' : b = a := hA b (by rw [q]; simp)
        subst e'
        rw [hK (by rw [q]; simp)] at e; cases e)
    have hM : Mod K mg (hidT s₁.heap H) := ⟨hKb, nsK hns, ⟨mb, nsK hb, hbb⟩, let ⟨mc, h1, h2⟩ := hlim; ⟨mc, nsK h1, h2⟩⟩
    have e0 : Env0 P w K mg (hidT s₁.heap H) callerA [] s₁ H := ⟨rfl, hM, fun b o e => of_hidT e, Nat.le_of_eq (hidT_size _ _), trivial, fun b hb => absurd (show b ∈ ([] : List Addr) from hb) (by simp), hok, .of_eq hg⟩
    refine codeAny_mono ((F _ hKb (nsK hns)).run callerA [] s₁ H ⟨[.ref a], []⟩ [.ref a] [.ref a] _ _ hr e0 (hbind s₁ (.ref a)) (.cons rfl .nil) (hsp H hO hS)) fun r s' h => ?_
    cases r with
    | error e => exact (hCX H e s' h).elim
    | ok fl =>
      cases fl with
      | next => exact False.elim h
      | brk => exact False.elim h
      | cont => exact False.elim h
      | ret u =>
        obtain ⟨v, H', os, bare, un, hok', r', q⟩ := h
        have q' : v = .bl true := q
        subst q'
        obtain rfl : u = Value.bool true := r'
        refine ⟨rfl, OldK.of_keep fun b o e => ?_, os, bare⟩
        cases q : H b with
        | none => exact un.keep b o e q (by intro z; exact absurd (show b ∈ ([] : List Addr) from z) (by simp)) (by simp)
        | some u =>
          rcases hO b with z | ⟨ob, xs, z⟩
          · rw [q] at z; cases z
          · have z2 := un.frzs b ob _ z
            obtain ⟨e1, _⟩ := hok b _ z
            obtain ⟨e2, _⟩ := hok' b _ z2
            rw [e] at e1; cases e1
            exact e2
  cases hk : K.lookup a with
  | some o =>
    -- the script is one of the module's own objects
    have e := KX a o hk
    rw [ha] at e
    cases e
    refine core (fun _ => none) (fun _ => .inl rfl) (.inr ⟨_, vs.toArray, _, hk, rfl, rfl, rfl, by rw [List.size_toArray, lenV]; exact hl, by simpa using rv⟩) (fun b u z => by have z' : (none : Option HO) = some u := z; cases z') (fun b z => absurd rfl z) fun z => absurd rfl z
  | none =>
    refine core (fun b => if b = a then some (.frz { cls := .type "list", data := .seq vs.toArray } (.lst (ns.map V.int))) else none) (fun b => ?_) (.inl (.inr ⟨{ cls := .type "list", data := .seq vs.toArray }, if_pos rfl⟩)) (fun b u z => ?_) (fun b z => ?_) fun _ => hk
    · by_cases hb : b = a
      · exact .inr ⟨_, _, if_pos hb⟩
      · exact .inl (if_neg hb)
    · by_cases hb : b = a
      · have z' := (if_pos hb).symm.trans z
        cases z'
        subst hb
        exact ⟨ha, by rw [List.length_map]; exact hl, vs, _, rv, ha⟩
      · have z' := (if_neg hb).symm.trans z
        cases z'
    · by_cases hb : b = a
      · exact hb
      · exact absurd (if_neg hb) z
end L2

namespace L2
open PySem PySem.Spec PyProof.Rows


theorem walk_of {l : PySem.W.OpenLaw} {n k : Nat} {q : Program} {loose : List Str} {XP : (Str → Option Value) → Heap → Prop} {YP : World → Heap → Prop} {d : DefRec} {K : Params → PySem.W.Frag} {CX : World → CXT} {sp : World → Sp} {x : Str}
    (hn : l.most = some n) (hn2 : n ≤ sizeLine) (hdf : d.params.defaults = []) (hr : Room k callerA)
    (hY : ∀ (w : World) (h : Heap), YP w h → (K w.params).In h)
    (F : ∀ (w : World) (mg : Str → Option Value) (fa : Addr) (h : Heap), (K w.params).In h → h.Ns mainGlobals mg → mg d.name = some (.ref fa) →
      ∃ fd : FuncData, (∀ (s : Shared) (u : Value), BindsTo s fd ⟨[u], []⟩ [(x, u)]) ∧
        ∀ base : Heap, (K w.params).In base → base.Ns mainGlobals mg → FnOk l.prog w (K w.params) mg base (CX w) k fa fd [x] (sp w))
    (hsp : ∀ (w : World) (H : Hp) (a : Addr) (ns : List Int), ns.length ≤ n → Only H → SqL (K w.params) H a (ns.map V.int) → sp w [.ref a] H (fun v _ => v = .bl true) fun _ _ _ => False)
    (hCX : ∀ (w : World) (H : Hp) (s : Shared) (e : Value) (s' : Shared), CX w [] H s (fun _ _ _ => False) e s' → False) :
    PySem.W.WalkO q loose XP YP l.row.toRowW d [] (fun f vs => PySem.call f vs) := by
  refine Att.attach_call hn hdf fun w s₀ s₁ mg mb fa o pm cd doc a vs ns G Y ho hd hcd hmg hobj hints hlen hg => ?_
  have KX := hY w _ Y
  obtain ⟨fd, hb, hF⟩ := F w mg fa _ KX G.T.g hmg
  exact law_call KX G.T.g G.T.b G.T.builtins G.T.nolimit hg hobj hints (Nat.le_trans hlen hn2) hr hF hb (fun H hO hS => hsp w H a ns hlen hO hS) fun H e s' => hCX w H s₁ e s'
end L2

/- THE LAST THEOREM (shape; LID, My.* are yours):
   My.Adr: a structure of the addresses that your layer names (classes, functions); My.Txt K t: a structure (Prop) of the equations over K;
   My.txt_mk : {K} {implicit addresses ..} (e1 : nsIn K mainGlobals "law" = some (some (.ref f))) (e2 : K.lookup f = some ⟨oc, od, .func (fnOf "law" "law" params body scope dV kV doc pm an cdv ct), sl⟩) (e3 : codeIn K cdv "law" = true) .. : ∃ t, My.Txt K t

set_option maxRecDepth 100000 in
set_option maxHeartbeats 0 in
theorem PySem.Challenge.cw_LID_holds : PySem.Challenge.rw_LID.Holds := by
  w_on; o_law; k_head; (case hw => w_witness2)
  k_fill
  refine L2.walk_of (l := PySem.Challenge.rw_LID) (n := 63) (k := 40) (x := "script") (CX := fun w => ..) (sp := fun _ => My.sp_law) rfl (by decide) rfl ⟨rfl, by decide, by decide⟩ (fun w h Y => PySem.W.kIn_of Y) ?F ?S ?C
  case F =>
    intro w mg fa h KX G hmg
    have T : ∃ t, My.Txt (L2.KOf KX) t := by
      dsimp only [L2.KOf]                          -- K must stand as «<heap const> w.params» for k_is
      refine' My.txt_mk ?e1 ?e2 ?e3 ..
      (case e1 => PySem.W.k_is)                    -- in the order: a name -> its address -> its object -> its parts
      (case e2 => PySem.W.k_is)
      ..
    obtain ⟨t, T⟩ := T
    have e0 := hmg.symm.trans (PySem.W.mg_of KX G T.law)
    cases e0                                       -- fa is the law's own address
    exact ⟨_, fun s u => .of_eq rfl, fun base kb nb => My.law_fn T kb nb⟩     -- if «.of_eq rfl» comes too early: refine' ⟨_, ?b, fun base kb nb => My.law_fn T kb nb⟩; exact fun s u => .of_eq rfl
  case S => exact fun w H a ns hl hO hS => ..
  case C => exact ..
(the tactic k_is has no namespace: write k_is) -/

namespace L2
open PySem PySem.Spec PyProof.Rows

noncomputable def defArgs (s : Stmt) : Arguments := match s with
  | .FunctionDef _ a _ _ _ _ _ _ _ _ => a
  | _ => { posonlyargs := [], args := [], vararg := none, kwonlyargs := [], kw_defaults := [], kwarg := none, defaults := [] }
noncomputable def defBody (s : Stmt) : List Stmt := match s with
  | .FunctionDef _ _ b _ _ _ _ _ _ _ => b
  | _ => []
noncomputable def defScope (s : Stmt) : Scope := match s with
  | .FunctionDef _ _ _ _ _ _ sc _ _ _ => sc
  | _ => { kind := .function, names := [], isGenerator := false, isCoroutine := false }

noncomputable abbrev CX0 : CXT := fun _ _ _ _ _ _ => False
noncomputable abbrev E0 : XK := fun _ _ _ => False
theorem pass0 {X : Cx} : Passes CX0 X E0 := fun _ _ _ _ _ _ _ h => h.elim

section
variable {P : Program} {w : World} {K : PySem.W.Frag} {mg : Str → Option Value} {base : Heap}
end

section
variable {X : Cx}
theorem pv (i : Nat) {x : Str} {pos : Pos} (hN : X.N[i]? = some x := by rfl) (hv : Vis X.env.scope x := by first | exact Or.inl rfl | exact Or.inr (Or.inl rfl) | exact Or.inr (Or.inr rfl)) (hd : (x == ("__debug__" : Str)) = false := by decide)
    (hcd : (x == ("__classdict__" : Str)) = false := by decide) : PE X (.Name x pos) (tVar i) := pe_var hN hv hd hcd
end

theorem iteF {A B : Prop} (h : B) : if false = true then A else B := by
  rw [if_neg Bool.false_ne_true]
  exact h
theorem iteT {A B : Prop} (h : A) : if true = true then A else B := by
  rw [if_pos rfl]
  exact h
theorem ite2 {c A B : Prop} [Decidable c] (h1 : c → A) (h2 : ¬ c → B) : if c then A else B := by
  by_cases h : c
  · rw [if_pos h]
    exact h1 h
  · rw [if_neg h]
    exact h2 h

noncomputable def Same (H H' : Hp) : Prop := ∀ b o, H b = some o → H' b = some o
theorem Same.refl (H : Hp) : Same H H := fun _ _ h => h
theorem Same.trans {H H1 H2 : Hp} (a : Same H H1) (b : Same H1 H2) : Same H H2 := fun c o h => b c o (a c o h)
theorem Same.free {H H' : Hp} (e : Same H H') {l : Addr} (h : H' l = Option.none) : H l = Option.none := by
  cases q : H l with
  | none => rfl
  | some o =>
    rw [e l o q] at h
    cases h
theorem Same.seq {K : PySem.W.Frag} {H H' : Hp} {a : Addr} {xs : List V} (e : Same H H') (h : SqL K H a xs) : SqL K H' a xs := by
  rcases h with (h | ⟨o, h⟩) | h
  · exact .inl (.inl (e _ _ h))
  · exact .inl (.inr ⟨o, e _ _ h⟩)
  · exact .inr h

end L2

set_option Elab.async false
set_option linter.all false
set_option maxRecDepth 100000
namespace Srt
open PySem PySem.W PyProof.Rows
noncomputable def go {α : Type} (k : Nat → Int) : KasT α → α
  | .ret a => a
  | .ask i j f => go k (f (decide (k i < k j)))
theorem go_bind {α β : Type} {k : Nat → Int} {f : α → KasT β} : ∀ t : KasT α, go k (t.bind f) = go k (f (go k t))
  | .ret a => rfl
  | .ask i j g => go_bind (k := k) (f := f) (g (decide (k i < k j)))
variable (k : Nat → Int)
noncomputable def kk (p : Array Nat) (i : Nat) : Int := k (p.getD i 0)
theorem kk_congr {p q : Array Nat} {i j : Nat} (h : p[i]? = q[j]?) : kk k p i = kk k q j := by
  unfold kk
  congr 1
  simp only [Array.getD_eq_getD_getElem?, h]
theorem kk_rev {p : Array Nat} {i j : Nat} (hj : j ≤ p.size) (m : Nat) : kk k (kas_rev p i j) m = if i ≤ m ∧ m < j then kk k p (i + j - 1 - m) else kk k p m := by
  have e := getElem?_mirror_all (i := i) hj m
  unfold kas_rev
  split
  · rename_i h; rw [if_pos h] at e; exact kk_congr k e
  · rename_i h; rw [if_neg h] at e; exact kk_congr k e
theorem kk_bub {p : Array Nat} {src d : Nat} (hs : src < p.size) (hd : d ≤ src) (m : Nat) : kk k (bubble p src d) m = if m = src - d then kk k p src else if src - d < m ∧ m ≤ src then kk k p (m - 1) else kk k p m := by
  have e := getElem?_bubble hs d hd m
  split
  · rename_i h; rw [if_pos h] at e; exact kk_congr k e
  · rename_i h; rw [if_neg h] at e
    split
    · rename_i h2; rw [if_pos h2] at e; exact kk_congr k e
    · rename_i h2; rw [if_neg h2] at e; exact kk_congr k e
noncomputable def Up (p : Array Nat) (n : Nat) : Prop := ∀ i, 1 ≤ i → i < n → kk k p (i - 1) ≤ kk k p i
noncomputable def Dn (p : Array Nat) (n : Nat) : Prop := ∀ i, 1 ≤ i → i < n → kk k p i ≤ kk k p (i - 1)
theorem up_le {p : Array Nat} {n : Nat} (h : Up k p n) : ∀ (d i : Nat), i + d < n → kk k p i ≤ kk k p (i + d)
  | 0, i, _ => Int.le_refl _
  | d + 1, i, hi => Int.le_trans (up_le h d i (by (first | lia | omega))) (by have := h (i + d + 1) (by (first | lia | omega)) (by (first | lia | omega)); rw [show i + d + 1 - 1 = i + d by (first | lia | omega)] at this; exact this)
theorem asc (p : Array Nat) : ∀ (f n : Nat), 1 ≤ n → Up k p n → n ≤ go k (kas_asc p f n) ∧ go k (kas_asc p f n) ≤ n + f ∧ Up k p (go k (kas_asc p f n)) ∧ (go k (kas_asc p f n) < n + f → kk k p (go k (kas_asc p f n)) < kk k p (go k (kas_asc p f n) - 1))
  | 0, n, _, h => ⟨Nat.le_refl _, Nat.le_refl _, h, fun z => absurd z (Nat.lt_irrefl _)⟩
  | f + 1, n, h1, h => by
    unfold kas_asc
    simp only [go]
    by_cases z : k (p.getD n 0) < k (p.getD (n - 1) 0)
    · rw [decide_eq_true z, if_pos rfl]
      exact ⟨Nat.le_refl _, by show n ≤ n + (f + 1); (first | lia | omega), h, fun _ => z⟩
    · rw [decide_eq_false z]
      have ih := asc p f (n + 1) (by (first | lia | omega)) (fun i hi hin => by
        by_cases e : i = n
        · subst e; exact Int.not_lt.mp z
        · exact h i hi (by (first | lia | omega)))
      simp only [Bool.false_eq_true, if_false]
      exact ⟨by (first | lia | omega), by (first | lia | omega), ih.2.2.1, fun y => ih.2.2.2 (by (first | lia | omega))⟩
theorem rev_perm (p : Array Nat) (i j : Nat) : (kas_rev p i j).Perm p := mirror_perm _ _ _ _
theorem rev_size (p : Array Nat) (i j : Nat) : (kas_rev p i j).size = p.size := mirror_size _ _ _ _
theorem kk_eqs {p : Array Nat} {n q : Nat} (hn : n ≤ p.size) (hq : q + 1 ≤ n) (he : ∀ i, n - (q + 1) ≤ i → i < n → kk k p i = kk k p (n - 1)) (m : Nat) : kk k (kas_rev p (n - (q + 1)) n) m = kk k p m := by
  rw [kk_rev k hn]
  split
  · rename_i h
    rw [he _ (by (first | lia | omega)) (by (first | lia | omega)), he m (by (first | lia | omega)) (by (first | lia | omega))]
  · rfl
theorem desc : ∀ (f : Nat) (p : Array Nat) (n q : Nat), 1 ≤ n → n + f ≤ p.size → q + 1 ≤ n → Dn k p n → (∀ i, n - (q + 1) ≤ i → i < n → kk k p i = kk k p (n - 1)) →
    (go k (kas_desc f p n q)).1.Perm p ∧ n ≤ (go k (kas_desc f p n q)).2.1 ∧ (go k (kas_desc f p n q)).2.1 ≤ n + f ∧ (go k (kas_desc f p n q)).2.2 + 1 ≤ (go k (kas_desc f p n q)).2.1 ∧ Dn k (go k (kas_desc f p n q)).1 (go k (kas_desc f p n q)).2.1 ∧
    (∀ i, (go k (kas_desc f p n q)).2.1 - ((go k (kas_desc f p n q)).2.2 + 1) ≤ i → i < (go k (kas_desc f p n q)).2.1 → kk k (go k (kas_desc f p n q)).1 i = kk k (go k (kas_desc f p n q)).1 ((go k (kas_desc f p n q)).2.1 - 1))
  | 0, p, n, q, _, _, h3, h4, h5 => ⟨Array.Perm.refl _, Nat.le_refl _, Nat.le_refl _, h3, h4, h5⟩
  | f + 1, p, n, q, h1, h2, h3, h4, h5 => by
    unfold kas_desc
    simp only [go]
    by_cases z : k (p.getD n 0) < k (p.getD (n - 1) 0)
    · rw [decide_eq_true z, if_pos rfl]
      have z' : kk k p n < kk k p (n - 1) := z
      by_cases hq : q > 0
      · rw [if_pos hq]
        have e := kk_eqs k (p := p) (n := n) (q := q) (by (first | lia | omega)) h3 h5
        have ih := desc f (kas_rev p (n - (q + 1)) n) (n + 1) 0 (by (first | lia | omega)) (by rw [rev_size]; (first | lia | omega)) (by (first | lia | omega)) (fun i hi hin => by
          rw [e, e]
          by_cases y : i = n
          · subst y; exact Int.le_of_lt z'
          · exact h4 i hi (by (first | lia | omega))) (fun i hi hin => by rw [show i = n + 1 - 1 by (first | lia | omega)])
        exact ⟨ih.1.trans (rev_perm _ _ _), by (first | lia | omega), by (first | lia | omega), ih.2.2.2.1, ih.2.2.2.2.1, ih.2.2.2.2.2⟩
      · rw [if_neg hq]
        have ih := desc f p (n + 1) 0 (by (first | lia | omega)) (by (first | lia | omega)) (by (first | lia | omega)) (fun i hi hin => by
          by_cases y : i = n
          · subst y; exact Int.le_of_lt z'
          · exact h4 i hi (by (first | lia | omega))) (fun i hi hin => by rw [show i = n + 1 - 1 by (first | lia | omega)])
        exact ⟨ih.1, by (first | lia | omega), by (first | lia | omega), ih.2.2.2.1, ih.2.2.2.2.1, ih.2.2.2.2.2⟩
    · rw [decide_eq_false z]
      simp only [Bool.false_eq_true, if_false, go]
      by_cases y : k (p.getD (n - 1) 0) < k (p.getD n 0)
      · rw [decide_eq_true y, if_pos rfl]
        exact ⟨Array.Perm.refl _, Nat.le_refl _, by simp [go], h3, h4, h5⟩
      · rw [decide_eq_false y]
        simp only [Bool.false_eq_true, if_false]
        have e : kk k p n = kk k p (n - 1) := Int.le_antisymm (Int.not_lt.mp y) (Int.not_lt.mp z)
        have ih := desc f p (n + 1) (q + 1) (by (first | lia | omega)) (by (first | lia | omega)) (by (first | lia | omega)) (fun i hi hin => by
          by_cases w : i = n
          · subst w; exact Int.le_of_eq e
          · exact h4 i hi (by (first | lia | omega))) (fun i hi hin => by
            show kk k p i = kk k p (n + 1 - 1)
            rw [show n + 1 - 1 = n by (first | lia | omega), e]
            by_cases w : i = n
            · subst w; exact e
            · exact h5 i (by (first | lia | omega)) (by (first | lia | omega)))
        exact ⟨ih.1, by (first | lia | omega), by (first | lia | omega), ih.2.2.2.1, ih.2.2.2.2.1, ih.2.2.2.2.2⟩
theorem rev_up {p : Array Nat} {n : Nat} (hn : n ≤ p.size) (h : Dn k p n) : Up k (kas_rev p 0 n) n := fun i h1 h2 => by
  rw [kk_rev k hn, kk_rev k hn, if_pos ⟨by (first | lia | omega), by (first | lia | omega)⟩, if_pos ⟨by (first | lia | omega), by (first | lia | omega)⟩]
  have := h (0 + n - 1 - (i - 1)) (by (first | lia | omega)) (by (first | lia | omega))
  rw [show 0 + n - 1 - (i - 1) - 1 = 0 + n - 1 - i by (first | lia | omega)] at this
  exact this
structure Cnt (nrem : Nat) (p : Array Nat) (r : Nat × Array Nat) : Prop where
  perm : r.2.Perm p
  one : 1 ≤ r.1
  le : r.1 ≤ nrem
  up : Up k r.2 r.1
theorem tail3 {p : Array Nat} {n nrem : Nat} (h1 : 1 ≤ n) (hn : n ≤ nrem) (hz : nrem ≤ p.size) (h : Dn k p n) : Cnt k nrem p (go k (kas_tail3 n nrem p)) := by
  unfold kas_tail3
  rw [go_bind]
  have a := asc k (kas_rev p 0 n) (nrem - n) n h1 (rev_up k (by (first | lia | omega)) h)
  exact ⟨rev_perm _ _ _, by show 1 ≤ go k _; (first | lia | omega), by show go k _ ≤ nrem; (first | lia | omega), a.2.2.1⟩
theorem descPart {p : Array Nat} {n nrem : Nat} (h1 : 1 ≤ n) (hn : n + 1 ≤ nrem) (hz : nrem ≤ p.size) (h : Dn k p (n + 1)) : Cnt k nrem p (go k (kas_descPart n nrem p)) := by
  unfold kas_descPart
  rw [go_bind]
  have d := desc k (nrem - (n + 1)) p (n + 1) 0 (by (first | lia | omega)) (by (first | lia | omega)) (by (first | lia | omega)) h (fun i hi hin => by rw [show i = n + 1 - 1 by (first | lia | omega)])
  generalize go k (kas_desc (nrem - (n + 1)) p (n + 1) 0) = r at d
  obtain ⟨p', m, q⟩ := r
  obtain ⟨d1, d2, d3, d4, d5, d6⟩ := d
  have sz : p'.size = p.size := d1.size_eq
  dsimp only at d1 d2 d3 d4 d5 d6 ⊢
  split
  · have e := kk_eqs k (p := p') (n := m) (q := q) (by (first | lia | omega)) d4 d6
    have t := tail3 k (p := kas_rev p' (m - (q + 1)) m) (n := m) (nrem := nrem) (by (first | lia | omega)) (by (first | lia | omega)) (by rw [rev_size]; (first | lia | omega)) (fun i h1 h2 => by rw [e, e]; exact d5 i h1 h2)
    exact ⟨t.perm.trans ((rev_perm _ _ _).trans d1), t.one, t.le, t.up⟩
  · have t := tail3 k (p := p') (n := m) (nrem := nrem) (by (first | lia | omega)) (by (first | lia | omega)) (by (first | lia | omega)) d5
    exact ⟨t.perm.trans d1, t.one, t.le, t.up⟩
theorem count {p : Array Nat} {nrem : Nat} (h1 : 1 ≤ nrem) (hz : nrem ≤ p.size) : Cnt k nrem p (go k (kas_count nrem p)) := by
  unfold kas_count
  rw [go_bind]
  have a := asc k p (nrem - 1) 1 (Nat.le_refl _) (fun i h1 h2 => by (first | lia | omega))
  generalize go k (kas_asc p (nrem - 1) 1) = n at a
  obtain ⟨a1, a2, a3, a4⟩ := a
  split
  · rename_i h
    have e : n = nrem := by simpa using h
    exact ⟨Array.Perm.refl _, a1, by show n ≤ nrem; (first | lia | omega), a3⟩
  · rename_i h
    have ne : n ≠ nrem := by simpa using h
    have lt := a4 (by (first | lia | omega))
    split
    · rename_i hn1
      simp only [go]
      by_cases z : k (p.getD 0 0) < k (p.getD (n - 1) 0)
      · rw [decide_eq_true z, if_pos rfl]
        exact ⟨Array.Perm.refl _, a1, by show n ≤ nrem; (first | lia | omega), a3⟩
      · rw [decide_eq_false z]
        simp only [Bool.false_eq_true, if_false]
        have z' : kk k p (n - 1) ≤ kk k p 0 := Int.not_lt.mp z
        have eqs : ∀ i, i < n → kk k p i = kk k p 0 := fun i hi => by
          have l1 := up_le k a3 i 0 (by (first | lia | omega))
          have l2 := up_le k a3 (n - 1 - i) i (by (first | lia | omega))
          rw [Nat.zero_add] at l1
          rw [show i + (n - 1 - i) = n - 1 by (first | lia | omega)] at l2
          (first | lia | omega)
        have er : ∀ m, kk k (kas_rev p 0 n) m = kk k p m := fun m => by
          rw [kk_rev k (by (first | lia | omega))]
          split
          · rw [eqs _ (by (first | lia | omega)), eqs m (by (first | lia | omega))]
          · rfl
        have t := descPart k (p := kas_rev p 0 n) (n := n) (nrem := nrem) (by (first | lia | omega)) (by (first | lia | omega)) (by rw [rev_size]; (first | lia | omega)) (fun i h1 h2 => by
          rw [er, er]
          by_cases y : i = n
          · subst y; exact Int.le_of_lt lt
          · rw [eqs i (by (first | lia | omega)), eqs (i - 1) (by (first | lia | omega))]; exact Int.le_refl _)
        exact ⟨t.perm.trans (rev_perm _ _ _), t.one, t.le, t.up⟩
    · have n1 : n = 1 := by (first | lia | omega)
      subst n1
      exact descPart k (by (first | lia | omega)) (by (first | lia | omega)) hz (fun i h1 h2 => by
        have : i = 1 := by (first | lia | omega)
        subst this
        exact Int.le_of_lt lt)
theorem place {p : Array Nat} {m : Nat} (hu : Up k p m) : ∀ (f l r : Nat), r - l ≤ f → l ≤ r → r ≤ m → (∀ i, i < l → kk k p i ≤ kk k p m) → (∀ i, r ≤ i → i < m → kk k p m < kk k p i) →
    go k (kas_place p m f l r) ≤ m ∧ (∀ i, i < go k (kas_place p m f l r) → kk k p i ≤ kk k p m) ∧ (∀ i, go k (kas_place p m f l r) ≤ i → i < m → kk k p m < kk k p i)
  | 0, l, r, hf, hlr, hr, h1, h2 => ⟨by show l ≤ m; (first | lia | omega), h1, fun i hi => h2 i (by have : l ≤ i := hi; (first | lia | omega))⟩
  | f + 1, l, r, hf, hlr, hr, h1, h2 => by
    unfold kas_place
    by_cases c : l ≥ r
    · rw [if_pos c]
      exact ⟨by show l ≤ m; (first | lia | omega), h1, fun i hi => h2 i (by have : l ≤ i := hi; (first | lia | omega))⟩
    · rw [if_neg c]
      simp only [go]
      by_cases z : k (p.getD m 0) < k (p.getD ((l + r) / 2) 0)
      · rw [decide_eq_true z, if_pos rfl]
        have z' : kk k p m < kk k p ((l + r) / 2) := z
        refine place hu f l ((l + r) / 2) (by (first | lia | omega)) (by (first | lia | omega)) (by (first | lia | omega)) h1 fun i hi him => ?_
        have := up_le k hu (i - (l + r) / 2) ((l + r) / 2) (by (first | lia | omega))
        rw [show (l + r) / 2 + (i - (l + r) / 2) = i by (first | lia | omega)] at this
        (first | lia | omega)
      · rw [decide_eq_false z]
        simp only [Bool.false_eq_true, if_false]
        have z' : kk k p ((l + r) / 2) ≤ kk k p m := Int.not_lt.mp z
        refine place hu f ((l + r) / 2 + 1) r (by (first | lia | omega)) (by (first | lia | omega)) hr (fun i hi => ?_) h2
        have := up_le k hu ((l + r) / 2 - i) i (by (first | lia | omega))
        rw [show i + ((l + r) / 2 - i) = (l + r) / 2 by (first | lia | omega)] at this
        (first | lia | omega)
theorem bin : ∀ (f : Nat) (p : Array Nat) (m : Nat), 1 ≤ m → m + f ≤ p.size → Up k p m → (go k (kas_bin f p m)).Perm p ∧ Up k (go k (kas_bin f p m)) (m + f)
  | 0, p, m, _, _, h => ⟨Array.Perm.refl _, h⟩
  | f + 1, p, m, h1, hz, hu => by
    unfold kas_bin
    rw [go_bind]
    have pl := place k hu m 0 m (by (first | lia | omega)) (by (first | lia | omega)) (Nat.le_refl _) (fun i hi => absurd hi (Nat.not_lt_zero _)) (fun i h1 h2 => by (first | lia | omega))
    generalize go k (kas_place p m m 0 m) = l at pl
    obtain ⟨p1, p2, p3⟩ := pl
    have kb := kk_bub k (p := p) (src := m) (d := m - l) (by (first | lia | omega)) (by (first | lia | omega))
    have ih := bin f (bubble p m (m - l)) (m + 1) (by (first | lia | omega)) (by rw [bubble_size]; (first | lia | omega)) (fun i hi hin => by
      rw [kb, kb]
      have em : m - (m - l) = l := by (first | lia | omega)
      rw [em]
      by_cases c1 : i = l
      · subst c1
        rw [if_neg (by (first | lia | omega)), if_neg (by (first | lia | omega)), if_pos rfl]
        exact p2 _ (by (first | lia | omega))
      · by_cases c2 : i - 1 = l
        · rw [if_pos c2, if_neg c1, if_pos ⟨by (first | lia | omega), by (first | lia | omega)⟩, c2]
          exact Int.le_of_lt (p3 l (Nat.le_refl _) (by (first | lia | omega)))
        · rw [if_neg c2, if_neg c1]
          by_cases c3 : l < i
          · rw [if_pos ⟨by (first | lia | omega), by (first | lia | omega)⟩, if_pos ⟨by (first | lia | omega), by (first | lia | omega)⟩]
            exact hu (i - 1) (by (first | lia | omega)) (by (first | lia | omega))
          · rw [if_neg (by (first | lia | omega)), if_neg (by (first | lia | omega))]
            exact hu i hi (by (first | lia | omega)))
    exact ⟨ih.1.trans (bubble_perm _ _ _), by have := ih.2; rw [show m + 1 + f = m + (f + 1) by (first | lia | omega)] at this; exact this⟩
theorem sorts {n : Nat} (h1 : 1 ≤ n) : (go k (kas_sort n)).Perm (List.range n).toArray ∧ Up k (go k (kas_sort n)) n := by
  unfold kas_sort
  rw [go_bind]
  have c := count k (p := (List.range n).toArray) (nrem := n) h1 (by simp)
  generalize go k (kas_count n (List.range n).toArray) = r at c
  have sz : r.2.size = n := by rw [c.perm.size_eq]; simp
  split
  · rename_i h
    have hm : max r.1 1 = r.1 := Nat.max_eq_left c.one
    rw [hm]
    have b := bin k (n - r.1) r.2 r.1 c.one (by (first | lia | omega)) c.up
    refine ⟨b.1.trans c.perm, ?_⟩
    have := b.2
    rw [show r.1 + (n - r.1) = n by (first | lia | omega)] at this
    exact this
  · have e : r.1 = n := by have := c.le; (first | lia | omega)
    have u := c.up
    rw [e] at u
    exact ⟨c.perm, u⟩
end Srt

set_option maxRecDepth 100000
namespace Fly
open PySem
open Sem (wp)


section
variable {M : Model} {A : Around} {E : Value → Shared → Prop} {s : Shared} {base : Heap} {env : Env} {outer : List Env} {L e : Addr}





end
end Fly

set_option Elab.async false
set_option linter.all false
set_option maxRecDepth 100000
namespace L2
open PySem PySem.Spec PyProof.Rows

section
variable {P : Program} {w : World} {H H' : Hp} {h h' : Heap} {a : Addr} {o : HO}

variable {fr old fs : List Addr} {e T : Addr} {cls fl : Value} {od : Option Addr} {H₀ : Hp} {h₀ : Heap}
end



section
variable {P : Program} {w : World} {K : PySem.W.Frag} {mg : Str → Option Value} {base : Heap} {N : List Str} {qual : Str} {scope : Scope} {f : Addr} {cd : Value} {A : Around} {outer : List Env} {s : Shared} {H : Hp} {E : XK}


end
end L2

set_option Elab.async false
set_option linter.all false
set_option maxRecDepth 100000
namespace L2
open PySem PySem.Spec PyProof.Rows

noncomputable def blk (X : Cx) (scope : Scope) (cl : List (Str × Addr)) (Nc : List Str) (s₀ : Shared) (H₀ : Hp) (C : Addr) (ex : List Addr) (pn : List (Addr × Obj)) : Cx :=
  { X with N := Nc, s₀ := s₀, H₀ := H₀, env := compEnvC scope cl C X.env, outer := X.stack, ex := ex, fn := fun _ => false, pn := pn, xe := fun _ _ => False }

noncomputable def FvOk (X : Cx) (sc : Scope) (cl : List (Str × Addr)) : List Str → List (Option Nat) → Prop
  | [], [] => True
  | _ :: N, none :: f => FvOk X sc cl N f
  | x :: N, some j :: f => (X.N[j]? = some x ∧ X.env.scope.names.lookup x = some .cell ∧ cl.lookup x = X.env.cells.lookup x ∧ sc.names.lookup x = some .cell) ∧ FvOk X sc cl N f
  | _, _ => False
noncomputable def ClSub (X : Cx) : List (Str × Addr) → Prop
  | [] => True
  | p :: r => X.env.cells.lookup p.1 = some p.2 ∧ ClSub X r
theorem ClSub.at {X : Cx} : ∀ {cl : List (Str × Addr)}, ClSub X cl → ∀ x c, cl.lookup x = some c → X.env.cells.lookup x = some c
  | [], _, x, c, h => by simp at h
  | (y, d) :: r, ⟨h1, h2⟩, x, c, h => by
    rw [List.lookup_cons] at h
    cases e : x == y with
    | true =>
      rw [e] at h
      have e' : x = y := by simpa using e
      cases h
      rw [e']; exact h1
    | false =>
      rw [e] at h
      exact ClSub.at h2 x c h
noncomputable def sig (fv : List (Option Nat)) (σ : St) : St := fv.map fun o => o.bind fun j => (σ[j]?).bind id
theorem sig_at {fv : List (Option Nat)} {σ : St} {k : Nat} {v : V} (h : (sig fv σ)[k]? = some (some v)) : ∃ j, fv[k]? = some (some j) ∧ σ[j]? = some (some v) := by
  unfold sig at h
  rw [List.getElem?_map] at h
  cases e : fv[k]? with
  | none => rw [e] at h; cases h
  | some o =>
    rw [e] at h
    cases o with
    | none => cases h
    | some j =>
      refine ⟨j, rfl, ?_⟩
      have h' : (σ[j]?).bind id = some v := Option.some.inj h
      cases e2 : σ[j]? with
      | none => rw [e2] at h'; cases h'
      | some z => rw [e2] at h'; exact congrArg some h'
theorem FvOk.at {X : Cx} {sc : Scope} {cl : List (Str × Addr)} : ∀ {N : List Str} {fv : List (Option Nat)} {k j : Nat} {x : Str}, FvOk X sc cl N fv → fv[k]? = some (some j) → N[k]? = some x →
    X.N[j]? = some x ∧ X.env.scope.names.lookup x = some .cell ∧ cl.lookup x = X.env.cells.lookup x ∧ sc.names.lookup x = some .cell
  | [], [], k, _, _, _, h, _ => by simp at h
  | [], _ :: _, _, _, _, h, _, _ => h.elim
  | y :: N, [], _, _, _, h, _, _ => h.elim
  | y :: N, none :: f, 0, _, _, _, h, _ => by simp at h
  | y :: N, none :: f, k + 1, j, x, q, h, g => FvOk.at (show FvOk X sc cl N f from q) (by simpa using h) (by simpa using g)
  | y :: N, some i :: f, 0, j, x, q, h, g => by
    have e1 : i = j := by simpa using h
    have e2 : y = x := by simpa using g
    subst e1 e2
    exact q.1
  | y :: N, some i :: f, k + 1, j, x, q, h, g => FvOk.at q.2 (by simpa using h) (by simpa using g)

structure CompOk (X : Cx) (scope : Scope) (cl : List (Str × Addr)) (Nc : List Str) (fv : List (Option Nat)) : Prop where
  clos : closureFor scope X.env = pure cl
  ncell : ∀ y ∈ scope.names, y.2 ≠ .cell
  kind : scope.kind = .function
  names : ∀ y ∈ scope.names, y.2 = .local → scope.names.lookup y.1 = some .local
  sub : ClSub X cl
  has : scope.names.all (fun y => y.2 == .local || y.2 == .globalImplicit || (cl.lookup y.1).isSome) = true
  len : fv.length = Nc.length
  fvs : FvOk X (relabel scope X.env) cl Nc fv

theorem CompOk.cells {X : Cx} {scope : Scope} {cl : List (Str × Addr)} {Nc : List Str} {fv : List (Option Nat)} (O : CompOk X scope cl Nc fv) {x : Str}
    (h : (relabel scope X.env).names.lookup x = some .cell ∨ (relabel scope X.env).names.lookup x = some .free) : ∃ c, cl.lookup x = some c := by
  have key : ∃ k, (x, k) ∈ (relabel scope X.env).names ∧ (k = .cell ∨ k = .free) := by
    rcases h with h | h
    · exact ⟨_, PySem.mem_of_lookup h, .inl rfl⟩
    · exact ⟨_, PySem.mem_of_lookup h, .inr rfl⟩
  obtain ⟨k, hk, hk2⟩ := key
  unfold relabel at hk
  obtain ⟨⟨n, k0⟩, h0, e⟩ := List.mem_map.mp hk
  dsimp only at e
  have q := List.all_eq_true.mp O.has _ h0
  have hx : n = x := by
    split at e
    · exact congrArg Prod.fst e
    · exact congrArg Prod.fst e
  have hk0 : k0 = .free := by
    split at e
    · rename_i z
      simp only [Bool.and_eq_true, beq_iff_eq] at z
      exact z.1.1
    · have e2 : k0 = k := congrArg Prod.snd e
      rcases hk2 with z | z
      · exact absurd (e2.trans z) (O.ncell _ h0)
      · exact e2.trans z
  subst hx hk0
  have q' : (cl.lookup n).isSome = true := by simpa using q
  exact Option.isSome_iff_exists.mp q'

theorem comp_loop {prog : Program} {w : World} {A : Around} {R : Result → Shared → Prop} {s : Shared} {elt target iter : Expr} {ifs : List Expr} {scope : Scope} {pos : Pos} {it acc : Value} {env : Env} (I : Nat → Shared → Prop)
    (turn : ∀ n s, I n s → wpAny (model prog w) A (pyNext it) (fun r s₁ => match r with
      | none => R (.ok .next) s₁
      | some v => wpAny (model prog w) A (letOwnedTupleGo target it v) (fun _ s₁' => wpAny (model prog w) A (assign target env v) (fun _ s₂ =>
          wpAny (model prog w) A (forIn ifs true fun c r => if r = true then do let ok ← isTrue c env (eval c env); pure (ForInStep.yield ok) else pure (ForInStep.yield r)) (fun ok s₃ =>
            if ok = true then wpAny (model prog w) A (eval elt env) (fun x s₄ =>
              wpAny (model prog w) A (call (.builtin "list.append") [acc, x]) (fun _ s₅ => ∃ m, m < n ∧ I m s₅) (fun _ _ => False) s₄) (fun _ _ => False) s₃
            else ∃ m, m < n ∧ I m s₃) (fun _ _ => False) s₂) (fun _ _ => False) s₁') (fun _ _ => False) s₁) (fun _ _ => False) s)
    (n : Nat) (h : I n s) : codeAny (model prog w) A (.compLoop (.ListComp elt [⟨target, iter, ifs, 0⟩] scope pos) 0 it acc env) R s := by
  refine codeAny_loop rfl I (fun n s hI => ?_) n h
  show wpAny _ A ((compTurn (.ListComp elt [⟨target, iter, ifs, 0⟩] scope pos) 0 it acc env).onRaise (fun x => do noteFrame x env; theTreesLotGoes x)) _ _ s
  refine wpAny_noted ?_
  rw [compTurn_list]
  have no : ∀ {E' : Value → Shared → Prop} (e : Value) (s : Shared), False → E' e s := fun _ _ z => z.elim
  refine wpAny_bind (wpAny_standAt (wpAny_bind (wpAny_mono (turn n s hI) (fun r s₁ h₁ => ?_) no)))
  cases r with
  | none => exact wpAny_pure h₁
  | some v =>
    refine wpAny_bind (wpAny_mono h₁ (fun _ s₁' h₁ => ?_) no)
    refine wpAny_bind (wpAny_mono h₁ (fun _ s₂ h₂ => wpAny_bind (wpAny_mono h₂ (fun ok s₃ h₃ => ?_) no)) no)
    cases ok with
    | false => exact wpAny_pure ⟨rfl, h₃⟩
    | true => exact wpAny_bind (wpAny_bind (wpAny_mono h₃ (fun x s₄ h₄ => wpAny_bind (wpAny_mono h₄ (fun _ s₅ h₅ => wpAny_pure (wpAny_pure ⟨rfl, h₅⟩)) no)) no))

noncomputable def PIf (X : Cx) (ifs : List Expr) (t : TT) : Prop :=
  ∀ (pins : List (Addr × Obj)) (s : Shared) (σ : St) (H : Hp) (Q : Bool → Hp → Prop), Inv X pins σ H s → t σ H Q →
    wpAny (model X.prog X.w) X.A (forIn ifs true fun c r => if r = true then do let ok ← isTrue c X.env (eval c X.env); pure (ForInStep.yield ok) else pure (ForInStep.yield r)) (TP X pins σ Q) X.xe s
noncomputable def tYes : TT := fun _ H Q => Q true H
theorem pif_nil {X : Cx} : PIf X [] tYes := fun _ _ _ H _ I h => wpAny_tests_nil ⟨H, I, h⟩
theorem pif_one {X : Cx} {c : Expr} {t : TT} (h : PT X c t) : PIf X [c] t := fun pins s σ H Q I q => wpAny_tests_one (h pins s σ H Q I q)

noncomputable def Wk (σ σ' : St) : Prop := σ'.length = σ.length ∧ ∀ (k : Nat) (v : V), σ[k]? = some (some v) → σ'[k]? = some (some v)
theorem Wk.refl (σ : St) : Wk σ σ := ⟨rfl, fun _ _ h => h⟩
theorem Wk.set {σ σ' : St} (h : Wk σ σ') {i : Nat} {z : Option V} (hi : σ[i]? = some none) : Wk σ (σ'.set i z) := by
  refine ⟨by rw [List.length_set]; exact h.1, fun k v e => ?_⟩
  by_cases q : i = k
  · subst q; rw [hi] at e; cases e
  · rw [List.getElem?_set_ne q]; exact h.2 k v e

noncomputable def cTurn (J : It) (g : TG) (tt : TT) (te : TE) (σc : St) (p : Addr) (W : Nat → Nat → List V → Hp → Prop) (R : Hp → Prop) : Prop :=
  ∀ i m ys H, W i m ys H → H p = some (.lst ys) ∧ ((J.stop i H ∧ R H) ∨ (J.go i H ∧ ∀ x H', J.yld i H x H' → g x σc H' fun σ2 H2 => Wk σc σ2 ∧ tt σ2 H2 fun b H3 =>
    if b = true then te σ2 H3 fun y H4 => H4 p = some (.lst ys) ∧ ys.length < sizeLine ∧ ∃ m', m' < m ∧ W (i + 1) m' (ys ++ [y]) (upd H4 p (.lst (ys ++ [y])))
    else ∃ m', m' < m ∧ W (i + 1) m' ys H3))

section
variable {X : Cx} {scope : Scope} {cl : List (Str × Addr)} {Nc : List Str} {fv : List (Option Nat)} {elt tg iter : Expr} {ifs : List Expr} {pos : Pos} {g : TG} {tt : TT} {te : TE}
theorem comp_run (O : CompOk X scope cl Nc fv) (hc : X.calm = true) (hg : ∀ s₀ H₀ C ex pn, PG (blk X scope cl Nc s₀ H₀ C ex pn) tg g) (ht : ∀ s₀ H₀ C ex pn, PIf (blk X scope cl Nc s₀ H₀ C ex pn) ifs tt)
    (he : ∀ s₀ H₀ C ex pn, PE (blk X scope cl Nc s₀ H₀ C ex pn) elt te)
    {pins : List (Addr × Obj)} {σ : St} {H : Hp} {s : Shared} {J : It} {fp : List Addr} {it : Addr} {tn : Nat → Heap → Prop} {R : Addr → Hp → Prop} {RR : Value → Addr → Result → Shared → Prop} {E : Value → Shared → Prop}
    (I : Inv X pins σ H s) (T : Turn X.prog X.w X.K tg J fp it tn) (st : tn 0 s.heap) (f : ∀ b ∈ fp, FpOk X pins H b)
    (h : ∀ p, H p = none → ∃ W : Nat → Nat → List V → Hp → Prop, (∃ m, W 0 m [] (upd H p (.lst []))) ∧ cTurn J g tt te (sig fv σ) p W (R p))
    (hRR : ∀ p C s' H', Inv X pins σ H' s' → R p H' → H' C = none → (∃ m, s'.heap.Ns C m) → C ≠ X.env.locals → X.s₀.heap.objs.size ≤ C → (∀ x c, X.env.cells.lookup x = some c → c ≠ C) → (∀ q ∈ X.pn ++ pins, q.1 ≠ C) → RR (.ref p) C (.ok .next) s') :
    wpAny (model X.prog X.w) X.A (newList []) (fun acc s₃ => wpAny (model X.prog X.w) X.A (newFunctionEnv scope X.env.globals cl [] X.env.qual none .none (some X.env)) (fun cenv s₄ =>
      codeAny (model X.prog X.w) X.A (.compStart (.ListComp elt [⟨tg, iter, ifs, 0⟩] scope pos) 0 (.ref it) acc { cenv with scope := relabel scope X.env }) (RR acc cenv.locals) s₄) E s₃) E s := by
  have hp : H s.heap.objs.size = none := I.hok.fresh (Nat.le_refl _)
  obtain ⟨W, ⟨m0, w0⟩, hT⟩ := h _ hp
  refine wpAny_newObj_type (wpAny_newFunctionEnv O.ncell (by intro y hy; simp at hy) (fun h₁ hns hsb => ?_) O.kind)
  dsimp only at hns hsb ⊢
  have I3 := I.lnew (ys := []) (its := []) (t' := s.toks) .nil (Nat.zero_le _)
  generalize hs3 : ({ s with heap := s.heap.push { cls := .type "list", data := .seq ([] : List Value).toArray }, toks := s.toks } : Shared) = s3 at I3
  have hheap : s3.heap = s.heap.push { cls := .type "list", data := .seq ([] : List Value).toArray } := by rw [← hs3]
  generalize hp0 : s.heap.objs.size = p at I3 w0 hT hp
  have hC : s3.heap.objs.size = p + 1 := by rw [hheap, Heap.size_push, hp0]
  generalize hCC : (s.heap.push { cls := Value.type "list", dict := none, data := .seq ([] : List Value).toArray }).objs.size = C at hns hsb ⊢
  have hC3 : s3.heap.objs.size = C := by rw [hheap]; exact hCC
  have old : ∀ b o, s3.heap.get? b = some o → h₁.get? b = some o := fun b o e => by
    have lt : b < C := by rw [← hC3]; exact Heap.lt_size e
    refine hsb.extBut b o (Nat.ne_of_lt lt) (Heap.get?_push_of_some _ ?_)
    rw [hheap] at e
    exact e
  have ne3 : ∀ b o, s3.heap.get? b = some o → b ≠ C := fun b o e => by rw [← hC3]; exact Nat.ne_of_lt (Heap.lt_size e)
  have sub := O.sub.at
  have I4 : Inv (blk X scope cl Nc s3 (upd H p (.lst [])) C fp (X.pn ++ pins)) [] (sig fv σ) (upd H p (.lst [])) { s with heap := h₁, toks := s.toks + ([] : List (Str × Value)).length } := by
    refine ⟨⟨I3.ok.mod, ?_, I3.ok.glob, I3.ok.blt, ?_, ?_, ?_, ?_, I3.ok.hd, I3.ok.frames, .inl rfl, ?_, I3.bs, ?_, ?_, ?_, I3.stack, I3.stkFree⟩, ?_, ?_, Un.kept old, ⟨_, hns, ?_⟩, ?_, ?_, ?_, ?_, I3.hok.kept old, ?_⟩
    · exact O.kind
    · show s3.heap.objs.size ≤ C; rw [hC3]; exact Nat.le_refl _
    · intro x y c h1 h2; exact I3.ok.inj x y c (sub x c h1) (sub y c h2)
    · intro x hx; exact O.cells hx
    · intro x c hf; exact Bool.noConfusion hf
    · intro b hb
      obtain ⟨f0, f1, f2, f3, f4, f5⟩ := f b hb
      obtain ⟨o, ho, _⟩ := T.obj _ _ st b hb
      have lt : b < C := by rw [← hC3, hC, ← hp0]; exact Nat.lt_succ_of_lt (Heap.lt_size ho)
      exact ⟨Nat.ne_of_lt lt, fun x c e => f4 x c (sub x c e)⟩
    · exact Nat.le_trans I3.ok.bsz I3.sz
    · intro b o e hb
      obtain ⟨f0, f1, f2, f3, f4, f5⟩ := f b hb
      rcases f3 with z | z
      · exact I3.ok.noex b o e z
      · exact absurd (Nat.lt_of_lt_of_le (Nat.lt_of_lt_of_le (Heap.lt_size e) I3.ok.bsz) z) (Nat.lt_irrefl _)
    · intro b hb z
      obtain ⟨f0, f1, f2, f3, f4, f5⟩ := f b hb
      rcases List.mem_cons.mp (I3.stkSub b z) with z | z
      · exact f1 z
      · exact f2 z
    · show s.os = s3.os; rw [← hs3]
    · exact I.bare
    · intro k x v e1 e2 e3
      obtain ⟨j, q1, q2⟩ := sig_at e2
      obtain ⟨a1, a2, a3, a4⟩ := O.fvs.at q1 e1
      obtain ⟨m, _, hl⟩ := I3.loc
      obtain ⟨u, r, lk⟩ := hl j x v a1 q2 (.inr (.inl a2))
      refine ⟨u, r, ?_⟩
      rcases lk with ⟨z, _⟩ | ⟨_, c, e, o, ho, hd⟩
      · have z' : X.env.scope.names.lookup x = some .local := z
        rw [a2] at z'; cases z'
      · exact .inr ⟨.inl a4, c, a3.trans e, o, old c o ho, hd⟩
    · intro x c e
      obtain ⟨v, o, ho, hd⟩ := I3.cell x c (sub x c e)
      exact ⟨v, o, old c o ho, hd⟩
    · show upd H p (.lst []) C = none
      exact I3.hok.fresh (by rw [hC3]; exact Nat.le_refl _)
    · intro x c e; exact I3.freeC x c (sub x c e)
    · intro q hq
      have hq' : q ∈ X.pn ++ pins := by
        have z : q ∈ (X.pn ++ pins) ++ [] := hq
        rwa [List.append_nil] at z
      obtain ⟨a1, a2, a3, a4, a5⟩ := I3.pin q hq'
      refine ⟨old _ _ a1, a2, ne3 _ _ a1, fun z => ?_, a5⟩
      rcases List.mem_cons.mp (I3.stkSub _ z) with z | z
      · exact a3 z
      · exact a4 z
    · show (sig fv σ).length = Nc.length
      unfold sig
      rw [List.length_map]
      exact O.len
  have fpc : ∀ {H' : Hp}, (∀ b ∈ fp, H' b = none) → ∀ b ∈ fp, FpOk (blk X scope cl Nc s3 (upd H p (.lst [])) C fp (X.pn ++ pins)) [] H' b := fun hn b hb => by
    obtain ⟨f0, f1, f2, f3, f4, f5⟩ := f b hb
    refine ⟨hn b hb, (I4.ok.exf b hb).1, I4.ok.exfs b hb, .inl hb, (I4.ok.exf b hb).2, fun q hq => ?_⟩
    have hq' : q ∈ X.pn ++ pins := by
      have z : q ∈ (X.pn ++ pins) ++ [] := hq
      rwa [List.append_nil] at z
    exact f5 q hq'
  have st4 : tn 0 h₁ := T.keep _ _ _ st fun b hb o e => old b o (by rw [hheap]; exact Heap.get?_push_of_some _ e)
  have fn4 : ∀ b ∈ fp, upd H p (.lst []) b = none := fun b hb => by
    obtain ⟨f0, _⟩ := f b hb
    obtain ⟨o, ho, _⟩ := T.obj _ _ st b hb
    rw [upd_ne (by rw [← hp0]; exact Nat.ne_of_lt (Heap.lt_size ho))]
    exact f0
  have loop : codeAny (model X.prog X.w) X.A (.compLoop (.ListComp elt [⟨tg, iter, ifs, 0⟩] scope pos) 0 (.ref it) (.ref p) (compEnvC scope cl C X.env)) (RR (.ref p) C) { s with heap := h₁, toks := s.toks + ([] : List (Str × Value)).length } := by
    refine comp_loop (fun n s' => ∃ i ys H', Inv (blk X scope cl Nc s3 (upd H p (.lst [])) C fp (X.pn ++ pins)) [] (sig fv σ) H' s' ∧ tn i s'.heap ∧ (∀ b ∈ fp, H' b = none) ∧ W i n ys H') ?_ m0 ⟨0, [], _, I4, st4, fn4, w0⟩
    rintro n s5 ⟨i, ys, H5, I5, st5, fn5, w5⟩
    obtain ⟨hl5, hh⟩ := hT i n ys H5 w5
    rcases hh with ⟨stop, q⟩ | ⟨go, step⟩
    · refine thn (T.done (blk X scope cl Nc s3 (upd H p (.lst [])) C fp (X.pn ++ pins)) rfl rfl rfl hc i [] s5 _ H5 _ I5 (fpc fn5) st5 stop) fun r s6 ⟨hr, I6⟩ => ?_
      subst hr
      obtain ⟨m6, hn6, _⟩ := I6.loc
      have I7 : Inv X pins σ H5 s6 := by
        refine I3.call' (ch := fp) I6.os I6.base I6.hok I6.bare fun b hb => ?_
        obtain ⟨f0, f1, f2, f3, f4, f5⟩ := f b hb
        exact ⟨f3, f1, f4, f5⟩
      refine hRR p C s6 H5 I7 q I6.free ⟨m6, hn6⟩ ?_ ?_ (fun x c e z => ?_) fun q hq z => ?_
      · rw [← hC3]; exact Nat.ne_of_gt I3.lt
      · rw [← hC3]; exact I3.sz
      · obtain ⟨v, o, ho, _⟩ := I3.cell x c e
        exact ne3 c o ho z
      · exact ne3 _ _ (I3.pin q hq).1 z
    · refine thn (T.item (blk X scope cl Nc s3 (upd H p (.lst [])) C fp (X.pn ++ pins)) rfl rfl rfl hc i [] s5 _ H5 (fun _ _ => False) I5 (fpc fn5) st5 go) fun r s6 ⟨u, hr, h6⟩ => ?_
      subst hr
      refine thn h6 fun _ s7 ⟨x, H7, I7, r7, y7, st7, fn7⟩ => ?_
      have I7' := I7.pinned (fpc fn7) (T.obj _ _ st7)
      refine thn (hg s3 (upd H p (.lst [])) C fp (X.pn ++ pins) _ s7 _ H7 x u _ I7' r7 (step x H7 y7)) fun _ s8 ⟨σ8, H8, I8, wk8, q8⟩ => ?_
      have again : ∀ {H9 : Hp} {s9 : Shared} {ys' : List V}, Inv (blk X scope cl Nc s3 (upd H p (.lst [])) C fp (X.pn ++ pins)) ([] ++ pinsAt fp s7.heap) σ8 H9 s9 → (∃ m', m' < n ∧ W (i + 1) m' ys' H9) →
          ∃ m, m < n ∧ ∃ i ys H', Inv (blk X scope cl Nc s3 (upd H p (.lst [])) C fp (X.pn ++ pins)) [] (sig fv σ) H' s9 ∧ tn i s9.heap ∧ (∀ b ∈ fp, H' b = none) ∧ W i m ys H' := fun {H9 s9 ys'} I9 ⟨m', hm, w9⟩ => by
        refine ⟨m', hm, i + 1, ys', H9, I9.unpinned.weak wk8.1.symm wk8.2, T.keep _ _ _ st7 fun b hb o e => (I9.pin (b, o) (List.mem_append_right _ (List.mem_append_right _ (mem_pinsAt hb e)))).1, fun b hb => ?_, w9⟩
        obtain ⟨o, e, d⟩ := T.obj _ _ st7 b hb
        exact (I9.pin (b, o) (List.mem_append_right _ (List.mem_append_right _ (mem_pinsAt hb e)))).2.1
      refine thn (ht s3 (upd H p (.lst [])) C fp (X.pn ++ pins) _ s8 σ8 H8 _ I8 q8) fun b s9 ⟨H9, I9, q9⟩ => ?_
      cases b with
      | false => exact again I9 q9
      | true =>
        refine thn (he s3 (upd H p (.lst [])) C fp (X.pn ++ pins) _ s9 σ8 H9 _ I9 q9) fun v s10 ⟨y, H10, I10, r10, hy, hz, q10⟩ => ?_
        refine thn (mt_append (X := blk X scope cl Nc s3 (upd H p (.lst [])) C fp (X.pn ++ pins)) _ s10 σ8 H10 (.ref p) [y] (.ref p) [v] (fun _ H' => ∃ m', m' < n ∧ W (i + 1) m' (ys ++ [y]) H') I10 rfl (.cons r10 .nil) ⟨p, ys, y, rfl, rfl, hy, hz, q10⟩) fun _ s11 ⟨_, H11, I11, _, q11⟩ => ?_
        exact again I11 q11
  exact codeAny_compStart_list loop (T.self _ _ _ _ _ st4 loop)

noncomputable def tComp (fv : List (Option Nat)) (wi : TI) (g : TG) (tt : TT) (te : TE) : TE := fun σ H Q => wi σ H fun J H1 => ∀ p, H1 p = none → ∃ W : Nat → Nat → List V → Hp → Prop, (∃ m, W 0 m [] (upd H1 p (.lst []))) ∧ cTurn J g tt te (sig fv σ) p W fun H' => Q (.ref p) H'
theorem pe_comp {wi : TI} (O : CompOk X scope cl Nc fv) (hc : X.calm = true) (hi : PI X tg iter wi) (hg : ∀ s₀ H₀ C ex pn, PG (blk X scope cl Nc s₀ H₀ C ex pn) tg g) (ht : ∀ s₀ H₀ C ex pn, PIf (blk X scope cl Nc s₀ H₀ C ex pn) ifs tt)
    (he : ∀ s₀ H₀ C ex pn, PE (blk X scope cl Nc s₀ H₀ C ex pn) elt te) (hs : ∀ x, foldedSetIterable iter X.env x = pure x := by intro _; rfl) :
    PE X (.ListComp elt [⟨tg, iter, ifs, 0⟩] scope pos) (tComp fv wi g tt te) := by
  intro pins s σ H Q I h
  rw [eval_ListComp]
  refine wpAny_comprehension_free (use := none) rfl hs O.clos O.kind O.names (wpAny_mono (hi pins s σ H _ I h) (fun v s1 h1 => thn h1 fun itv s2 h2 => ?_) fun _ _ z => z)
  obtain ⟨it, fp, tn, J, H2, e, I2, T, st2, f2, q2⟩ := h2
  subst e
  refine comp_run (RR := fun acc C => compPost (model X.prog X.w) X.A X.xe none (EP X pins σ Q) acc C) O hc hg ht he I2 T st2 f2 q2 ?_
  intro p C s' H' I' q' c1 c2 c3 c4 c5 c6
  obtain ⟨m, hn⟩ := c2
  exact ⟨m, hn, fun h'' hs'' => ⟨.ref p, H', I'.turned (t' := s'.toks) (fun b o hb e => (hs''.2 b hb).trans e) c1 c3 (.inr c4) c5 c6, rfl, q'⟩⟩
theorem ps_comp {wi : TI} {i : Nat} {y : Str} {py spos : Pos} (O : CompOk X scope cl Nc fv) (hN : X.N.Nodup) (hy : X.N[i]? = some y) (hx : Loc X.env.scope y) (hc : X.calm = true) (hi : PI X tg iter wi) (hg : ∀ s₀ H₀ C ex pn, PG (blk X scope cl Nc s₀ H₀ C ex pn) tg g)
    (ht : ∀ s₀ H₀ C ex pn, PIf (blk X scope cl Nc s₀ H₀ C ex pn) ifs tt) (he : ∀ s₀ H₀ C ex pn, PE (blk X scope cl Nc s₀ H₀ C ex pn) elt te)
    (hsw : swapsWith (.ListComp elt [⟨tg, iter, ifs, 0⟩] scope pos) (some (.Name y py)) spos.line X.env = pure true := by rfl) (hs : ∀ x, foldedSetIterable iter X.env x = pure x := by intro _; rfl)
    (hf : X.fn y = true ∨ X.env.scope.names.lookup y = some .local := by first | exact .inl rfl | exact .inr rfl | assumption) :
    PS X (.Assign [.Name y py] (.ListComp elt [⟨tg, iter, ifs, 0⟩] scope pos) spos) (tAsg (tComp fv wi g tt te) (gName i)) := by
  intro pins s σ H D I h
  rw [exec_Assign_Name_used _ _ _ _ hsw]
  refine wpAny_bind (wpAny_standAt (wpAny_bind ?_))
  show wpAny _ X.A (do let _ ← comprehension (.ListComp elt [⟨tg, iter, ifs, 0⟩] scope pos) scope X.env _ (newList []) false (eval iter X.env) (some (assign (.Name y py) X.env))) _ _ s
  refine wpAny_bind (wpAny_mono (wpAny_comprehension_free (use := some (assign (.Name y py) X.env)) (Q := fun _ s' => SP X pins D .next s') rfl hs O.clos O.kind O.names
    (wpAny_mono (hi pins s σ H _ I h) (fun v s1 h1 => thn h1 fun itv s2 h2 => ?_) fun _ _ z => z)) (fun _ s' hq => wpAny_pure (wpAny_pure hq)) fun _ _ e => e)
  obtain ⟨it, fp, tn, J, H2, e, I2, T, st2, f2, q2⟩ := h2
  subst e
  refine comp_run (RR := fun acc C => compPost (model X.prog X.w) X.A X.xe (some (assign (.Name y py) X.env)) (fun _ s' => SP X pins D .next s') acc C) O hc hg ht he I2 T st2 f2 q2 ?_
  intro p C s' H' I' q' c1 c2 c3 c4 c5 c6
  obtain ⟨m, hn⟩ := c2
  show wpAny _ X.A (assign (.Name y py) X.env (.ref p)) _ _ _
  refine wpAny_assign_Name (store_ok2 I' hN hy hx (v := .ref p) (u := .ref p) rfl (fun s'' I'' hb => ?_) hf)
  obtain ⟨a, sb, ha⟩ := hb
  have hCa : C ≠ a := by
    rcases ha with z | z
    · rw [z]; exact c3
    · exact fun w => c5 y a z w.symm
  refine ⟨m, hn.sameBut sb hCa, fun h3 sb3 => ?_⟩
  exact ⟨_, H', I''.turned (t' := s''.toks) (fun b o hb e => (sb3.2 b hb).trans e) c1 c3 (.inr c4) c5 c6, q'⟩
end
end L2

set_option Elab.async false
set_option linter.all false
set_option maxRecDepth 100000
namespace L2
open PySem PySem.Spec PyProof.Rows

section
variable {P : Program} {w : World} {H : Hp} {h h' : Heap} {a : Addr} {o : HO}
theorem HOk.more (x : HOk P w H h) (k : ∀ b u, H b ≠ none → h.get? b = some u → h'.get? b = some u) (hn : H a = none) (new : ObjOk P w (upd H a o) h' a o) : HOk P w (upd H a o) h' := fun b u e => by
  by_cases q : b = a
  · subst q
    rw [upd_same] at e
    cases e
    exact new
  · rw [upd_ne q] at e
    have ne : ∀ c z, H c = some z → c ≠ a := fun c z e' w' => by rw [w', hn] at e'; cases e'
    refine (x b u e).stay (fun c v hc z => k c v ?_ z) (fun c z => by rw [upd_ne (ne c _ z)]; exact z) fun c xs z => by rw [upd_ne (ne c _ z)]; exact z
    rcases hc with z | z
    · rw [z, e]; intro y; cases y
    · rw [z]; intro y; cases y
theorem Un.track {fs ex : List Addr} {H₀ : Hp} {h₀ : Heap} (u : Un fs ex H₀ H h₀ h) (hn : H a = none) (h0 : h₀.get? a = none) : Un fs ex H₀ (upd H a o) h₀ h := by
  have ne : ∀ c z, H c = some z → c ≠ a := fun c z e' w' => by rw [w', hn] at e'; cases e'
  refine ⟨u.keep, u.slot, fun b ob e n hx => ?_, u.there, fun b xs e => ?_, fun b ob z e => ?_, fun b ps e => ?_⟩
  · rw [upd_ne (fun z => by rw [z, h0] at e; cases e)]; exact u.free b ob e n hx
  · have q := u.tups b xs e
    rw [upd_ne (ne b _ q)]; exact q
  · have q := u.frzs b ob z e
    rw [upd_ne (ne b _ q)]; exact q
  · obtain ⟨m, q⟩ := u.tbls b ps e
    exact ⟨m, by rw [upd_ne (ne b _ q)]; exact q⟩
end

section
variable {X : Cx}
theorem call_sum (hc : X.calm = true) : CallR X (.builtin "sum") (fun xs H Q => ∃ (p : Addr) (ns : List Int), xs = [.ref p] ∧ SqL X.K H p (ns.map V.int) ∧ Q (.int ns.sum) H) := by
  intro pins s σ H xs us Q I r h
  obtain ⟨p, ns, rfl, hl, q⟩ := h
  obtain ⟨u, rfl, rx⟩ := vals1 r
  cases rx
  obtain ⟨its, rv, pl, hz⟩ := I.list hl
  have hi := intsAre_of rv
  obtain ⟨xs, e⟩ := hi.allInts.items
  have hn := hi.numsOf
  have hl' := pl.isList
  rw [e] at hl'
  refine sum_intListG (I.ok.hd hc) hl' fun h' tk t' hk => ⟨.int ns.sum, H, I.kept hk, ⟨t', ?_⟩, q⟩
  have e2 : numsOf (intItems xs).toList = ns := by rw [← e]; exact hn
  rw [nums_intItems] at e2
  rw [preSum_eq, List.take_of_length_le (by simp), e2]

noncomputable def Ite (K : PySem.W.Frag) (a : Addr) : It :=
  ⟨fun i H => ∃ xs x, SqL K H a xs ∧ xs[i]? = some x, fun i H x H' => ∃ t y, H t = none ∧ H' = upd H t (.tup [.int i, y]) ∧ x = .ref t ∧ ∀ xs, SqL K H a xs → xs[i]? = some y, fun i H => ∃ xs, SqL K H a xs ∧ xs.length ≤ i⟩
theorem turn_enum {P : Program} {w : World} {K : PySem.W.Frag} {es : List Expr} {k : Nat} {tp : Pos} (a e it : Addr) (hei : e ≠ it) : Turn P w K (.Tuple es k tp) (Ite K a) [e, it] e (fun i h => (∃ old, IsEnum h e it i old) ∧ h.IsListIter it a i) where
  mem := by simp
  obj := fun i h st b hb => by
    obtain ⟨⟨old, h1⟩, o, h2, c, d⟩ := st
    rcases List.mem_cons.mp hb with z | z
    · subst z; exact ⟨_, h1, fun v q => by have q' : Data.fields _ = Data.cell v := q; cases q'⟩
    · rw [List.mem_singleton.mp z]; exact ⟨o, h2, fun v q => by rw [d] at q; cases q⟩
  keep := fun i h h' st k => by
    obtain ⟨⟨old, h1⟩, h2⟩ := st
    exact ⟨⟨old, k e (by simp) _ h1⟩, h2.at fun o z => k it (by simp) o z⟩
  item := by
    intro X hP hw hK hc i pins s σ H E I hf st hg
    subst hP hw hK
    obtain ⟨xs, x, hq, hx⟩ := hg
    obtain ⟨its, rv, p, hz⟩ := I.list hq
    obtain ⟨u, hu, ru⟩ := rv.get hx
    obtain ⟨⟨old, h1⟩, h2⟩ := st
    refine wpAny_pyNext_enum_item h1 h2 p.isList (x := u) (by simpa using hu) hei fun h' g1 g2 g3 g4 g5 => ?_
    refine ⟨_, rfl, ?_⟩
    have hn : H s.heap.objs.size = none := I.hok.fresh (Nat.le_refl _)
    show wpAny _ X.A (do
      let o ← load e
      match o.cls, o.data with
      | .type n, .fields vs =>
        if ["enumerate", "zip", "dict_itemiterator", "dict_reverseitemiterator", "odict_iterator", "itertools.zip_longest", "itertools.pairwise"].contains n && vs[0]? == some (rawInt s.heap.objs.size) then
          rule "for.unpacks-the-owned-tuple"
          updateField e 0 .none
      | _, _ => pure ()) _ _ _
    refine wpAny_bind (wpAny_load g1 ?_)
    dsimp only
    rw [if_pos (by simp)]
    refine wpAny_bind (wpAny_rule ?_)
    show wpAny _ _ (setField (.ref e) 0 .none) _ _ _
    refine wpAny_setField g1 rfl (by simp) ?_
    have ge : ∀ b, b ≠ e → (h'.update e (Obj.mapFields (·.setIfInBounds 0 Value.none))).get? b = h'.get? b := fun b q => Heap.get?_update_other _ _ (Ne.symm q)
    have gs := Heap.get?_update_self (Obj.mapFields (·.setIfInBounds 0 Value.none)) g1 rfl
    have te : s.heap.objs.size ≠ e := Nat.ne_of_gt (Heap.lt_size h1)
    have keep : ∀ b o, b ∉ [e, it] → s.heap.get? b = some o → (h'.update e (Obj.mapFields (·.setIfInBounds 0 Value.none))).get? b = some o := fun b o q z => by
      rw [ge b (by intro y; exact q (by simp [y]))]
      exact g5 b o (by intro y; exact q (by simp [y])) (by intro y; exact q (by simp [y])) z
    have nfp : ∀ b, H b ≠ none → b ∉ [e, it] := fun b q z => q (hf b z).1
    have new : ObjOk X.prog X.w (upd H s.heap.objs.size (.tup [.int i, x])) (h'.update e (Obj.mapFields (·.setIfInBounds 0 Value.none))) s.heap.objs.size (.tup [.int i, x]) := by
      refine ⟨by simp only [List.length_cons, List.length_nil]; rw [sizeLine_eq]; decide, [.int i s.toks, u], .cons ⟨_, rfl⟩ (.cons ru .nil), ⟨_, (ge _ te).trans g3, rfl, 0, rfl⟩⟩
    have I1 : Inv X pins σ (upd H s.heap.objs.size (.tup [.int i, x])) { s with heap := h'.update e (Obj.mapFields (·.setIfInBounds 0 Value.none)), toks := s.toks + 1 } := by
      refine I.call (ch := [e, it]) (g' := s.gens) (d' := s.drawn) ?_ (I.hok.more (fun b v q z => keep b v (nfp b q) z) hn new) I.bare fun b hb => ?_
      · refine Un.track (H := H) ⟨fun b o z n _ hx => keep b o hx z, fun b o z n _ hx => ⟨o.slots, keep b o hx z⟩, fun _ _ _ n _ => n, fun b o z hx => ⟨o, keep b o hx z⟩, fun _ _ z => z, fun _ _ _ z => z, fun b ps z => ⟨#[], by rw [z]; simp⟩⟩ hn (Heap.get?_none_of_le (Nat.le_refl _))
      · obtain ⟨f0, f1, f2, f3, f4, f5⟩ := hf b hb
        exact ⟨f3, f1, f4, f5⟩
    refine ⟨.ref s.heap.objs.size, _, I1, rfl, ⟨s.heap.objs.size, x, hn, rfl, rfl, fun ys hy => by rw [I.list_inj hy hq]; exact hx⟩, ⟨⟨u, ?_⟩, ?_⟩, fun b hb => ?_⟩
    · show (h'.update e (Obj.mapFields (·.setIfInBounds 0 Value.none))).get? e = _
      rw [gs]
      rfl
    · exact g2.at fun o z => (ge it (Ne.symm hei)).trans z
    · have lt : b < s.heap.objs.size := by
        rcases List.mem_cons.mp hb with z | z
        · rw [z]; exact Heap.lt_size h1
        · rw [List.mem_singleton.mp z]; obtain ⟨o, q, _⟩ := h2; exact Heap.lt_size q
      rw [upd_ne (Nat.ne_of_lt lt)]
      exact (hf b hb).1
  done := by
    intro X hP hw hK hc i pins s σ H E I hf st hg
    subst hP hw hK
    obtain ⟨xs, hq, hx⟩ := hg
    obtain ⟨its, rv, p, hz⟩ := I.list hq
    obtain ⟨⟨old, h1⟩, h2⟩ := st
    obtain ⟨f0, f1, f2, f3, f4, f5⟩ := hf it (by simp)
    have hl := rv.length
    exact wpAny_pyNext_enum_end (I.ok.hd hc) h1 h2 p.isList (by simp; (first | lia | omega)) fun h' eb => ⟨rfl, I.turned (t' := s.toks) (fun b o hb z => eb b o hb z) f0 f1 f3 f4 f5⟩
  self := fun _ _ _ _ _ st h => by
    obtain ⟨⟨old, h1⟩, h2⟩ := st
    exact wpAny_pyIter_enum h1 h
noncomputable def iEnum (K : PySem.W.Frag) (ta : TA) : TI := fun σ H R => ta σ H fun vs H1 => ∃ a, vs = [.ref a] ∧ (∃ xs, SqL K H1 a xs) ∧ R (Ite K a) H1
theorem pi_enum {a : Expr} {ta : TA} {p pos : Pos} {es : List Expr} {k : Nat} {tp : Pos} (hg : Gl X "enumerate") (hm : X.mg "enumerate" = none) (ha : PA X [a] ta) (hs : starEach [a] X.env = [(false, eval a X.env)] := by rfl) :
    PI X (.Tuple es k tp) (.Call (.Name "enumerate" p) [a] [] pos) (iEnum X.K ta) := by
  intro pins s σ H R I h
  refine Call_ (ld_blt I hg hm PyProof.Rows.Boot.«enumerate» (PyProof.Rows.callWith_type1 (thn (ha pos pins s σ H _ I h) fun us s1 ⟨vs, H1, I1, r1, q1⟩ => ?_) hs rfl))
  obtain ⟨l, e, ⟨xs, hx⟩, q⟩ := q1
  subst e
  obtain ⟨u, rfl, rx⟩ := vals1 r1
  cases rx
  obtain ⟨its, rv, pl, hz⟩ := I1.list hx
  refine call_enumerate_list pl.isList fun h' g1 g2 g3 g4 => ?_
  have I2 : Inv X pins σ H1 { s1 with heap := h' } := I1.kept (t' := s1.toks) g4
  refine wpAny_pyIter_enum g1 ?_
  refine ⟨s1.heap.objs.size + 1, [s1.heap.objs.size + 1, s1.heap.objs.size], _, _, H1, rfl, I2, turn_enum l _ _ (Nat.succ_ne_self _), ⟨⟨.none, g1⟩, g2⟩, fun b hb => ?_, q⟩
  rcases List.mem_cons.mp hb with z | z
  · subst z; exact I1.fpOk (Nat.le_succ _) (I1.hok.fresh (Nat.le_succ _))
  · rw [List.mem_singleton.mp z]; exact I1.fpOk (Nat.le_refl _) (I1.hok.fresh (Nat.le_refl _))
theorem for_enum {K : PySem.W.Frag} {a : Addr} {xs : List V} {g : TG} {tb : TS} {D : Ends} {σ : St} {H : Hp} (Pv : Nat → St → Hp → Prop) (h0 : Pv 0 σ H) (hl : ∀ i σ H, i ≤ xs.length → Pv i σ H → SqL K H a xs)
    (hs : ∀ i x σ H t, xs[i]? = some x → Pv i σ H → H t = none → g (.ref t) σ (upd H t (.tup [.int i, x])) fun σ2 H2 => tb { D with nx := Pv (i + 1), ct := Pv (i + 1), bk := D.nx } σ2 H2) (hd : ∀ σ H, Pv xs.length σ H → D.nx σ H) :
    ∃ W : Nat → Nat → St → Hp → Prop, (∃ m, W 0 m σ H) ∧ ∀ i m σ H, W i m σ H →
      ((Ite K a).stop i H ∧ D.nx σ H) ∨ ((Ite K a).go i H ∧ ∃ N : St → Hp → Prop, (∀ σ' H', N σ' H' → ∃ m', m' < m ∧ W (i + 1) m' σ' H') ∧ ∀ x H', (Ite K a).yld i H x H' → g x σ H' fun σ2 H2 => tb { D with nx := N, ct := N, bk := D.nx } σ2 H2) := by
  refine ⟨fun i m σ H => m = xs.length - i ∧ i ≤ xs.length ∧ Pv i σ H, ⟨xs.length, by simp, Nat.zero_le _, h0⟩, ?_⟩
  rintro i m σ H ⟨rfl, hi, p⟩
  have q := hl i σ H hi p
  by_cases hlt : i < xs.length
  · refine .inr ⟨⟨xs, xs[i], q, by simp [hlt]⟩, Pv (i + 1), fun σ' H' p' => ⟨xs.length - (i + 1), by (first | lia | omega), rfl, hlt, p'⟩, fun x H' y => ?_⟩
    obtain ⟨t, v, ht, rfl, rfl, hv⟩ := y
    exact hs i v σ H t (hv xs q) p ht
  · have e : i = xs.length := by (first | lia | omega)
    subst e
    exact .inl ⟨⟨xs, q, Nat.le_refl _⟩, hd σ H p⟩
end

end L2

set_option Elab.async false
set_option linter.all false
set_option maxRecDepth 100000
namespace L2
open PySem PySem.Spec PyProof.Rows

mutual
noncomputable def DatR (K : PySem.W.Frag) (H : Hp) : PyData → V → Prop
  | .none, v => v = .non
  | .bool b, v => v = .bl b
  | .int i, v => v = .int i
  | .str x, v => v = .str x
  | .tuple ds, v => ∃ a xs, v = .ref a ∧ SqT K H a xs ∧ DatA K H ds xs
  | .list ds, v => ∃ a xs, v = .ref a ∧ SqL K H a xs ∧ DatA K H ds xs
  | .dict _, _ => False
noncomputable def DatA (K : PySem.W.Frag) (H : Hp) : List PyData → List V → Prop
  | [], xs => xs = []
  | d :: ds, xs => ∃ x r, xs = x :: r ∧ DatR K H d x ∧ DatA K H ds r
end
section
variable {X : Cx} {pins : List (Addr × Obj)} {σ : St} {H : Hp} {s : Shared}
mutual
theorem reads_of (I : Inv X pins σ H s) : ∀ (d : PyData) {v : V} {u : Value}, DatR X.K H d v → RelV v u → ∃ as, Reads s.heap u d as
  | .none, v, u, h, r => by cases (show v = .non from h); cases (show u = Value.none from r); exact ⟨_, .none⟩
  | .bool b, v, u, h, r => by cases (show v = .bl b from h); cases (show u = Value.bool b from r); exact ⟨_, .bool b⟩
  | .int i, v, u, h, r => by cases (show v = .int i from h); obtain ⟨t, rfl⟩ := (show ∃ t, u = Value.int i t from r); exact ⟨_, .int i t⟩
  | .str x, v, u, h, r => by cases (show v = .str x from h); obtain ⟨t, rfl⟩ := (show ∃ t, u = Value.str x t from r); exact ⟨_, .str x t⟩
  | .tuple ds, v, u, h, r => by
    obtain ⟨a, xs, rfl, hq, hd⟩ := (show ∃ a xs, v = .ref a ∧ SqT X.K H a xs ∧ DatA X.K H ds xs from h)
    cases (show u = Value.ref a from r)
    obtain ⟨its, rv, ⟨o, e, c, n, d⟩, hz⟩ := I.tuple hq
    obtain ⟨as, ra⟩ := readsAll_of I ds hd rv
    exact ⟨_, .tuple e c d ra⟩
  | .list ds, v, u, h, r => by
    obtain ⟨a, xs, rfl, hq, hd⟩ := (show ∃ a xs, v = .ref a ∧ SqL X.K H a xs ∧ DatA X.K H ds xs from h)
    cases (show u = Value.ref a from r)
    obtain ⟨its, rv, pl, hz⟩ := I.list hq
    obtain ⟨o, e, c, n, d⟩ := pl.isList
    obtain ⟨as, ra⟩ := readsAll_of I ds hd rv
    exact ⟨_, .list e c d ra⟩
  | .dict kvs, v, u, h, r => (show False from h).elim
theorem readsAll_of (I : Inv X pins σ H s) : ∀ (ds : List PyData) {xs : List V} {us : List Value}, DatA X.K H ds xs → Vals xs us → ∃ as, ReadsAll s.heap us ds as
  | [], xs, us, h, r => by
    cases (show xs = [] from h)
    cases r
    exact ⟨_, .nil⟩
  | d :: ds, xs, us, h, r => by
    obtain ⟨x, rest, rfl, h1, h2⟩ := (show ∃ x r, xs = x :: r ∧ DatR X.K H d x ∧ DatA X.K H ds r from h)
    cases r with
    | cons r1 r2 =>
      obtain ⟨as, ra⟩ := reads_of I d h1 r1
      obtain ⟨bs, rb⟩ := readsAll_of I ds h2 r2
      exact ⟨_, .cons ra rb⟩
end
noncomputable def rEqD (K : PySem.W.Frag) (neg : Bool) : R2 := fun x y H Q => ∃ dx dy, DatR K H dx x ∧ DatR K H dy y ∧ dx.canLay0 = true ∧ dy.canLay0 = true ∧ dx.depth ≤ 8 ∧ Q (.bl (if neg then !PyData.eqv dx dy else PyData.eqv dx dy)) H
theorem op_eqD (hu : X.A.units + 64 < cLine) : OpR X (compareOp .Eq) (rEqD X.K false) := by
  intro pins s σ H x y v u Q I rx ry h
  obtain ⟨dx, dy, h1, h2, c1, c2, d1, q⟩ := h
  obtain ⟨as, ra⟩ := reads_of I dx h1 rx
  obtain ⟨bs, rb⟩ := reads_of I dy h2 ry
  exact SeqAt.compareEq_reads ra rb c1 c2 (by have := Nat.min_le_left dx.depth dy.depth; (first | lia | omega)) ⟨.bl _, H, I, rfl, q⟩
theorem op_neD (hu : X.A.units + 64 < cLine) : OpR X (compareOp .NotEq) (rEqD X.K true) := by
  intro pins s σ H x y v u Q I rx ry h
  obtain ⟨dx, dy, h1, h2, c1, c2, d1, q⟩ := h
  obtain ⟨as, ra⟩ := reads_of I dx h1 rx
  obtain ⟨bs, rb⟩ := reads_of I dy h2 ry
  exact SeqAt.compareNe_reads ra rb c1 c2 (by have := Nat.min_le_left dx.depth dy.depth; (first | lia | omega)) ⟨.bl _, H, I, rfl, q⟩
end

section
variable {X : Cx} {E : XK} {C : Addr} {bmB : List Value} {B newId initId : String} {x : Str} {np cpos pos : Pos} {e : Expr} {es : List Expr} {t : TA}
end

noncomputable def ExcO (e : Addr) (cls : Value) (od : Option Addr) : HO := .ext fun h => ∃ oe vs, h.get? e = some oe ∧ oe.cls = cls ∧ oe.dict = od ∧ oe.data = .fields vs
section
variable {X : Cx} {pins : List (Addr × Obj)} {σ : St} {H : Hp} {s : Shared}
end

end L2

set_option Elab.async false
set_option linter.all false
set_option maxRecDepth 100000
namespace L2
open PySem PySem.Spec PyProof.Rows

section
variable {X : Cx} {k : Nat} {f : Addr} {fd : FuncData} {ps : List Str} {sp : Sp} {dvs : List V} {ds : List Value} {x : Str} {p pos : Pos} {e : Expr} {es : List Expr} {t : TA}


variable {ce : Expr} {tc : XK → TE} {B n : Str} {aB : Addr} {iE : Nat} {np hpos epos tpos : Pos} {b0 : Stmt} {suite : List Stmt} {ts : TS} {D : Ends} {pins : List (Addr × Obj)} {σ : St}

end
end L2

set_option Elab.async false
set_option linter.all false
set_option maxRecDepth 100000
namespace L2
open PySem PySem.Spec PySem.W PyProof.Rows

structure ExcC (K : PySem.W.Frag) (C : Addr) : Prop where
  ga : findIn K (.ref C) "__getattribute__" = some (some (.builtin "BaseException.__getattribute__"))
  gh : findIn K (.ref C) "__getattr__" = some none
  be : mroIn K C (.type "BaseException") = some true
  ob : mroIn K C (.type "object") = some true
  cl : findIn K (.ref C) "__class__" = some (some (.builtin "object.__class__"))
  hn : specialIn K (.builtin "object.__class__") "__get__" = some (some (.builtin "getset_descriptor.__get__"))
  tk : takesIn K (.builtin "object.__class__") = some true
  cls : (clsIn K C).isSome = true

section
variable {prog : Program} {w : World} {A : Around} {E : Value → Shared → Prop} {s : Shared} {K : PySem.W.Frag} {x C : Addr} {ox : Obj} {od : Option Obj} {name : Str} {tk : Tok}
theorem exc_check {M : Model} {Q : Unit → Shared → Prop} {nameV : Value} (X : K.In s.heap) (I : PySem.W.InstAt s.heap x ox C od) (c : ExcC K C) (hq : Q () s) : wpAny M A (checkBuiltinCall "BaseException.__getattribute__" ⟨[.ref x, nameV], []⟩) Q E s := by
  have hk : builtinKind "BaseException.__getattribute__" = some .slot := by decide +kernel
  have hsplit : splitId "BaseException.__getattribute__" = some ("BaseException", "__getattribute__") := by decide +kernel
  have ha := F.args_bexc_ga (.ref x) nameV
  obtain ⟨hp, g, d, t, os⟩ := s
  have L0 := I.type (M := M)
  have L1 := looks_mroIn (M := M) X c.be
  have LI : Looks M hp (isInstance (.ref x) (.type "BaseException")) true := L0.andThen L1
  simp only [checkBuiltinCall, hk, hsplit]
  refine wpAny_bind (LI.at ?_)
  repeat (any_goals (first | assumption | wp_step))
theorem exc_by {fill expr : Bool} {Q : Value → Shared → Prop} (X : K.In s.heap) (I : PySem.W.InstAt s.heap x ox C od) (c : ExcC K C)
    (h : ∀ A' : Around, wpAny (model prog w) A' (Builtin.«object.__getattribute__» ⟨[.ref x, .str name tk], []⟩) (fun fin s' => ∃ v, fin = .done (.ret v) ∧ handedIn v = true ∧ Q v s') (fun _ _ => False) s) :
    wpAny (model prog w) A (getAttrBy (.ref x) (.str name tk) fill expr) Q E s := by
  obtain ⟨hp, g, d, t, os⟩ := s
  have L0 := I.type (M := model prog w)
  have L1 := looks_findIn (M := model prog w) X c.ga
  have L2 := looks_findIn (M := model prog w) X c.gh
  have f3 := F.excAttr_ValueError.ga.bind (.ref x)
  unfold getAttrBy
  refine wpAny_holding (wpAny_bind (L0.at (wpAny_bind (L1.at ?_))))
  have e1 : (onTheHeap (Value.ref C) && Value.builtin "BaseException.__getattribute__" == Value.builtin "object.__getattribute__") = false := by
    have e0 : (Value.builtin "BaseException.__getattribute__" == Value.builtin "object.__getattribute__") = false := by decide +kernel
    rw [e0, Bool.and_false]
  simp only [e1, Bool.false_eq_true, if_false]
  unfold getAttrByItsOwn hookBefore
  have e2 : onTheHeap (Value.ref C) = true := rfl
  simp only [e2, if_true]
  refine wpAny_bind (L2.at (wpAny_bind (wpAny_attempt (wpAny_holding ?_))))
  have e3 : (expr && onTheHeap (Value.builtin "BaseException.__getattribute__")) = false := by cases expr <;> rfl
  unfold callGetattribute
  simp only [e3, Bool.false_eq_true, if_false]
  unfold boundAndCalled
  rw [f3]
  refine wpAny_bind (wpAny_pure ?_)
  dsimp only
  refine wpAny_call (codeAny_call_builtin F.excAttr_ValueError.ga.plain F.entry_bexc_ga (exc_check X I c (wpAny_mono (h _) (fun fin s' z => ?_) fun _ _ z => z.elim)))
  obtain ⟨v, rfl, hv, q⟩ := z
  show wpAny _ _ (handedOut v) _ _ _
  rw [handedOut_of hv]
  exact wpAny_pure q
theorem exc_class {Q : Option Value → Shared → Prop} (X : K.In s.heap) (I : PySem.W.InstAt s.heap x ox C od) (c : ExcC K C) (h : Q (some (.ref C)) { s with toks := s.toks + 1 }) : wpAny (model prog w) A (getAttr? (.ref x) "__class__") Q E s := by
  have hf : findObj K C od "__class__" = some (.bind (.builtin "getset_descriptor.__get__") (.builtin "object.__class__")) := by
    obtain ⟨cd, hc⟩ := Option.isSome_iff_exists.mp c.cls
    unfold findObj
    rw [hc, Option.bind_some, c.cl, Option.bind_some]
    dsimp only
    rw [c.hn, Option.bind_some]
    dsimp only
    rw [c.tk, Option.bind_some]
  unfold getAttr? getAttrBy?
  refine wpAny_bind (wpAny_mkText (wpAny_bind (wpAny_attempt (exc_by (s := { s with toks := s.toks + 1 }) X I c (Q := fun v s' => wpAny (model prog w) A (pure (some v)) Q E s') (fun A' => ?_)))))
  obtain ⟨hp, g, d, t, os⟩ := s
  have L0 := I.type (M := model prog w)
  have L1 := looks_find (M := model prog w) X I hf
  unfold Builtin.«object.__getattribute__»
  refine wpAny_bind (wpAny_pure ?_)
  dsimp only
  refine wpAny_bind (wpAny_pure (wpAny_bind (L0.at (wpAny_bind (L1.at ?_)))))
  show wpAny _ _ (holding [Value.builtin "object.__class__"] (call (.builtin "getset_descriptor.__get__") [.builtin "object.__class__", .ref x, .ref C]) >>= ret) _ _ _
  refine wpAny_bind (wpAny_holding (wpAny_call ?_))
  refine class_get (s := ⟨hp, g, d, t + 1, os⟩) (ox := ox) (od := od) X I c.ob ?_
  exact wpAny_pure ⟨_, rfl, rfl, wpAny_pure h⟩
end
end L2

set_option Elab.async false
set_option linter.all false
set_option maxRecDepth 100000
namespace L2
open PySem PySem.Spec PyProof.Rows

theorem kitx_exc {K : PySem.W.Frag} {x C : Addr} {ox : Obj} {od : Option Obj} (c : ExcC K C) : PySem.W.KitX K (.ref x) (.ref C) (fun h => PySem.W.InstAt h x ox C od) where
  ty := fun _ _ _ I => I.type
  it := fun _ _ X _ => by
    have z0 := c.cls
    unfold PySem.W.clsIn at z0
    split at z0
    · rename_i c' d' cd' sl' ho
      intro A' Q' E' s' k q
      unfold isType loadHead
      exact wpAny_bind (wpAny_loadPart (k _ _ (X _ _ ho)) (wpAny_pure q))
    · cases z0
  ne := fun h tp dd its n sl X htp => by
    refine Bool.eq_false_iff.mpr fun q => ?_
    have e : C = tp := Value.ref.inj (beq_iff_eq.mp q)
    subst e
    have z0 := c.cls
    unfold PySem.W.clsIn at z0
    split at z0
    · rename_i c' d' cd' sl' ho
      have z := (X _ _ ho).symm.trans htp
      cases z
    · cases z0
  ca := fun X I k => exc_class X I c k

noncomputable def OdOk (H : Hp) (od : Option Addr) : Prop := od = none ∨ ∃ dx fs, od = some dx ∧ H dx = some (.xd fs)
inductive TyX (K : PySem.W.Frag) (H : Hp) : V → Value → Prop where
  | of {v : V} {t : Value} (h : TyOf K H v t) : TyX K H v t
  | exc {e C : Addr} {od : Option Addr} (h : H e = some (ExcO e (.ref C) od)) (o : OdOk H od) (c : ExcC K C) : TyX K H (.ref e) (.ref C)

section
variable {X : Cx} {pins : List (Addr × Obj)} {σ : St} {H : Hp} {s : Shared}
theorem inst_of {e C : Addr} {od : Option Addr} (I : Inv X pins σ H s) (h : H e = some (ExcO e (.ref C) od)) (o : OdOk H od) : ∃ ox od', PySem.W.InstAt s.heap e ox C od' ∧ (∀ dx fs, od = some dx → H dx = some (.xd fs) → ∃ obj, od' = some obj ∧ s.heap.get? dx = some obj) := by
  obtain ⟨⟨oe, vs, h1, h2, h3, h4⟩, _, _⟩ := (show ObjOk X.prog X.w H s.heap e (ExcO e (.ref C) od) from I.hok e _ h)
  have no : PySem.W.notCls oe = true := by unfold PySem.W.notCls; rw [h4]
  rcases o with rfl | ⟨dx, fs, rfl, hx⟩
  · exact ⟨oe, none, ⟨h1, h2, no, by rw [h3]; trivial⟩, fun dx fs z => nomatch z⟩
  · obtain ⟨mA, ⟨ob, es, ep, g1, _⟩, _⟩ := (show ObjOk X.prog X.w H s.heap dx (.xd fs) from I.hok dx _ hx)
    refine ⟨oe, some ob, ⟨h1, h2, no, by rw [h3]; exact g1⟩, fun dx' fs' z z2 => ?_⟩
    cases z
    exact ⟨ob, rfl, g1⟩
noncomputable def clsV : V → Value
  | .ty n => .type n
  | .ref a => .ref a
  | _ => .none
noncomputable def isCl : V → Bool
  | .ty _ => true
  | .ref _ => true
  | _ => false
theorem clsV_of {c : V} {u : Value} (r : RelV c u) (h : isCl c = true) : u = clsV c := by
  cases c <;> first | exact r | cases h
theorem clsV_all : ∀ {cs : List V} {us : List Value}, Vals cs us → cs.all isCl = true → us = cs.map clsV
  | [], _, .nil, _ => rfl
  | c :: cs, _, .cons r t, h => by
    have h' : isCl c = true ∧ cs.all isCl = true := by simpa using h
    rw [List.map_cons, ← clsV_of r h'.1, ← clsV_all t h'.2]
noncomputable def rIsi (K : PySem.W.Frag) : List V → Hp → VK → Prop := fun xs H Q => ∃ x c t, xs = [x, c] ∧ TyX K H x t ∧
  ((isCl c = true ∧ ∃ b, PySem.W.kitOne K t (clsV c) = some b ∧ Q (.bl b) H) ∨ (∃ p cs b, c = .ref p ∧ H p = some (.tup cs) ∧ cs.all isCl = true ∧ PySem.W.kitAny K t (cs.map clsV) = some b ∧ Q (.bl b) H))
theorem kit_ty {A : Around} {E : Value → Shared → Prop} {x : V} {u t : Value} (I : Inv X pins σ H s) (rx : RelV x u) (ty : TyX X.K H x t) : u ≠ .builtin "__main__.__loader__#opaque" ∧ ∃ Hh : Heap → Prop, PySem.W.KitX X.K u t Hh ∧ Hh s.heap := by
  cases ty with
  | exc h o c =>
    cases rx
    obtain ⟨ox, od', J, _⟩ := inst_of I h o
    exact ⟨fun z => (nomatch z), _, kitx_exc c, J⟩
  | of h =>
    cases h with
    | non => cases (show u = Value.none from rx); exact ⟨fun z => (nomatch z), _, PySem.W.kitx_none, True.intro⟩
    | bl y => cases (show u = Value.bool y from rx); exact ⟨fun z => (nomatch z), _, PySem.W.kitx_bool, True.intro⟩
    | int i => obtain ⟨t, q⟩ := (show ∃ t, u = Value.int i t from rx); cases q; exact ⟨fun z => (nomatch z), _, PySem.W.kitx_int, True.intro⟩
    | str y => obtain ⟨t, q⟩ := (show ∃ t, u = Value.str y t from rx); cases q; exact ⟨fun z => (nomatch z), _, PySem.W.kitx_str, True.intro⟩
    | flt y => obtain ⟨t, q⟩ := (show ∃ t, u = Value.float y t from rx); cases q; exact ⟨fun z => (nomatch z), _, PySem.W.kitx_float, True.intro⟩
    | @lst a xs ea =>
      cases (show u = Value.ref a from rx)
      obtain ⟨_, _, n, _, h1⟩ := (show ObjOk X.prog X.w H s.heap a (.lst xs) from I.hok a _ ea)
      exact ⟨fun z => (nomatch z), _, PySem.W.kitx_list, ⟨_, h1, rfl⟩⟩
    | @frz a ob xs ea =>
      cases (show u = Value.ref a from rx)
      obtain ⟨_, _, _, n, _, h1⟩ := (show ObjOk X.prog X.w H s.heap a (.frz ob (.lst xs)) from I.hok a _ ea)
      exact ⟨fun z => (nomatch z), _, PySem.W.kitx_list, ⟨_, h1, rfl⟩⟩
    | @tup a xs ea =>
      cases (show u = Value.ref a from rx)
      obtain ⟨_, _, _, o, h1, h2, _⟩ := (show ObjOk X.prog X.w H s.heap a (.tup xs) from I.hok a _ ea)
      exact ⟨fun z => (nomatch z), _, PySem.W.kitx_tuple, ⟨o, h1, h2⟩⟩
    | @dK a kvs ea =>
      cases (show u = Value.ref a from rx)
      obtain ⟨_, _, vs, _, o, es, ep, h1, h2, _⟩ := (show ObjOk X.prog X.w H s.heap a (.dK kvs) from I.hok a _ ea)
      exact ⟨fun z => (nomatch z), _, PySem.W.kitx_dict, ⟨o, h1, h2.1⟩⟩
    | @dT a kvs ea =>
      cases (show u = Value.ref a from rx)
      obtain ⟨_, _, xs, _, o, es, ep, h1, h2, _⟩ := (show ObjOk X.prog X.w H s.heap a (.dT kvs) from I.hok a _ ea)
      exact ⟨fun z => (nomatch z), _, PySem.W.kitx_dict, ⟨o, h1, h2.1⟩⟩
    | @ins a C dx fs ea cl ha hn htk hm =>
      cases (show u = Value.ref a from rx)
      obtain ⟨mA, O, _⟩ := ins_get I.hok ea
      obtain ⟨od, J, _⟩ := O.look
      exact ⟨fun z => (nomatch z), _, PySem.W.kitx_own (cl.get _) cl.hd ha hn htk hm, J⟩
theorem call_isi : CallR X (.builtin "isinstance") (rIsi X.K) := by
  intro pins s σ H xs us Q I r h
  obtain ⟨x, c, t, rfl, ty, h⟩ := h
  obtain ⟨u, v, rfl, rx, rc⟩ := vals2 r
  obtain ⟨hx, Hh, kx, p0⟩ := kit_ty (A := X.A) (E := X.xe) I rx ty
  rcases h with ⟨hc, b, e, q⟩ | ⟨p, cs, b, rfl, hp, hcs, e, q⟩
  · rw [clsV_of rc hc]
    exact PySem.W.kia_one kx I.kIn p0 e hx fun tk => ⟨.bl b, H, I.tok tk, rfl, q⟩
  · cases rc
    obtain ⟨_, its, rv, o, h1, h2, n, h3⟩ := (show ObjOk X.prog X.w H s.heap p (.tup cs) from I.hok p _ hp)
    obtain ⟨oc, od, oda, osl⟩ := o
    dsimp only at h2 h3
    subst h2 h3
    refine PySem.W.kia_tup kx I.kIn p0 h1 (b := b) ?_ hx fun tk => ⟨.bl b, H, I.tok tk, rfl, q⟩
    rw [clsV_all rv hcs]
    exact e
end
end L2

namespace Bk
noncomputable abbrev Rw := Bool × Int
noncomputable def sm (g : Bool) : List Rw → Int
  | [] => 0
  | r :: t => (if r.1 = g then r.2 else 0) + sm g t
noncomputable def tot : List Rw → Int
  | [] => 0
  | r :: t => r.2 + tot t
theorem tot_sm : ∀ rs : List Rw, tot rs = sm true rs + sm false rs
  | [] => rfl
  | r :: t => by
    have := tot_sm t
    simp only [tot, sm]
    cases h : r.1 <;> simp <;> (first | lia | omega)
theorem tot_append : ∀ a b : List Rw, tot (a ++ b) = tot a + tot b
  | [], b => by simp [tot]
  | r :: t, b => by
    have := tot_append t b
    simp only [List.cons_append, tot]; (first | lia | omega)
theorem sm_append (g : Bool) : ∀ a b : List Rw, sm g (a ++ b) = sm g a + sm g b
  | [], b => by simp [sm]
  | r :: t, b => by
    have := sm_append g t b
    simp only [List.cons_append, sm]; (first | lia | omega)
noncomputable def put (bs : List Rw) (r : Rw) : List Rw :=
  match bs.getLast? with
  | none => if 0 < r.2 then [r] else []
  | some b => if b.1 = r.1 then bs.dropLast ++ [(r.1, b.2 + r.2)] else if 0 < r.2 then bs ++ [r] else bs
theorem put_nil (r : Rw) : put [] r = if 0 < r.2 then [r] else [] := rfl
theorem put_snoc (bs : List Rw) (b r : Rw) : put (bs ++ [b]) r = if b.1 = r.1 then bs ++ [(r.1, b.2 + r.2)] else if 0 < r.2 then bs ++ [b] ++ [r] else bs ++ [b] := by
  unfold put
  rw [List.getLast?_append]
  simp
noncomputable def tidy (rs : List Rw) : List Rw := rs.foldl put []
theorem tidy_snoc (rs : List Rw) (r : Rw) : tidy (rs ++ [r]) = put (tidy rs) r := by
  unfold tidy
  rw [List.foldl_append]; rfl
theorem snoc_cases {α : Type} (l : List α) : l = [] ∨ ∃ i x, l = i ++ [x] := by
  rcases List.eq_nil_or_concat l with h | ⟨i, x, h⟩
  · exact .inl h
  · exact .inr ⟨i, x, by rw [h, List.concat_eq_append]⟩
theorem sm_put (g : Bool) (bs : List Rw) (r : Rw) (h : 0 ≤ r.2) : sm g (put bs r) = sm g bs + (if r.1 = g then r.2 else 0) := by
  rcases snoc_cases bs with rfl | ⟨i, b, rfl⟩
  · rw [put_nil]
    split
    · simp [sm]
    · have : r.2 = 0 := by (first | lia | omega)
      simp [sm, this]
  · rw [put_snoc]
    split
    · rename_i e
      rw [sm_append, sm_append]
      simp only [sm]
      rw [e]
      split <;> (first | lia | omega)
    · split
      · rw [sm_append]; simp [sm]
      · have : r.2 = 0 := by (first | lia | omega)
        simp [this]
theorem sm_tidy (g : Bool) (rs : List Rw) (h : ∀ r ∈ rs, 0 ≤ r.2) : sm g (tidy rs) = sm g rs := by
  have key : ∀ (rs acc : List Rw), (∀ r ∈ rs, 0 ≤ r.2) → sm g (rs.foldl put acc) = sm g acc + sm g rs := by
    intro rs
    induction rs with
    | nil => intro acc _; simp [sm]
    | cons r t ih =>
      intro acc h
      rw [List.foldl_cons, ih _ (fun x hx => h x (List.mem_cons_of_mem _ hx)), sm_put g acc r (h r List.mem_cons_self)]
      simp only [sm]; (first | lia | omega)
  have := key rs [] h
  simpa [tidy, sm] using this
theorem tot_nonneg : ∀ (rs : List Rw), (∀ r ∈ rs, 0 ≤ r.2) → 0 ≤ tot rs
  | [], _ => by simp [tot]
  | r :: t, h => by
    have h1 := h r List.mem_cons_self
    have h2 := tot_nonneg t fun x hx => h x (List.mem_cons_of_mem _ hx)
    simp only [tot]; (first | lia | omega)
theorem put_length (bs : List Rw) (r : Rw) : (put bs r).length ≤ bs.length + 1 := by
  rcases snoc_cases bs with rfl | ⟨i, b, rfl⟩
  · rw [put_nil]; split <;> simp
  · rw [put_snoc]
    split
    · simp
    · split <;> simp
theorem tidy_length (rs : List Rw) : (tidy rs).length ≤ rs.length := by
  have key : ∀ (rs acc : List Rw), (rs.foldl put acc).length ≤ acc.length + rs.length := by
    intro rs
    induction rs with
    | nil => intro acc; simp
    | cons r t ih =>
      intro acc
      have h1 := ih (put acc r)
      have h2 := put_length acc r
      simp only [List.foldl_cons, List.length_cons]; (first | lia | omega)
  have := key rs []
  simpa [tidy] using this
end Bk

set_option Elab.async false
set_option linter.all false
set_option maxRecDepth 100000
namespace L2
open PySem PySem.Spec PyProof.Rows

structure FunG (K : PySem.W.Frag) (x qual : Str) (st : Stmt) (f : Addr) (fd : FuncData) (dV : Value) : Prop where
  ex : ∃ (oc : Value) (od : Option Addr) (kV doc pm : Value) (an : Option Addr) (cdv ct : Value) (osl : Array (Option Value)),
    fd = PySem.W.fnOf x qual (defArgs st) (defBody st) (defScope st) dV kV doc pm an cdv ct ∧ K.lookup f = some ⟨oc, od, .func fd, osl⟩ ∧ PySem.W.codeIn K cdv qual = true
  kp : PySem.W.keepIn K (.ref f) = true
section
variable {P : Program} {w : World} {K : PySem.W.Frag} {mg : Str → Option Value} {base : Heap} {x qual : Str} {st : Stmt} {f : Addr} {fd : FuncData} {dV : Value} {N ps : List Str} {k : Nat} {sp : Sp}
theorem FunG.ok (F : FunG K x qual st f fd dV) (S : FnScope N ps (defScope st)) (len : ∀ vs H Q E, sp vs H Q E → vs.length = ps.length)
    (hbody : ∀ (cdv : Value) (A : Around) (outer : List Env) (s : Shared) (H : Hp) (vs : List V) (Q : VK) (E : XK), Room k (A.deeper (envOfC qual (defScope st) s.heap.objs.size f cdv)) → sp vs H Q E →
      ∃ t, PSs (cxOf CX0 P w K mg base N qual (defScope st) f cdv A outer s H E).nox (defBody st) t ∧ t { nx := fun _ H' => Q .non H', rt := Q } (start N vs) H) : FnOk P w K mg base CX0 (k + 1) f fd ps sp := by
  obtain ⟨oc, od, kV, doc, pm, an, cdv, ct, osl, rfl, lk, hcd⟩ := F.ex
  exact fn_of lk hcd S len fun A outer s H vs Q E hr h => let ⟨t, h1, h2⟩ := hbody cdv A outer s H vs Q E hr h; ⟨t, h1.nox, h2⟩
theorem fung_mk {oc : Value} {od an : Option Addr} {osl : Array (Option Value)} {kV doc pm cdv ct : Value} (l : K.lookup f = some ⟨oc, od, .func (PySem.W.fnOf x qual (defArgs st) (defBody st) (defScope st) dV kV doc pm an cdv ct), osl⟩)
    (c : PySem.W.codeIn K cdv qual = true) (k : PySem.W.keepIn K (.ref f) = true) : FunG K x qual st f (PySem.W.fnOf x qual (defArgs st) (defBody st) (defScope st) dV kV doc pm an cdv ct) dV :=
  ⟨⟨oc, od, kV, doc, pm, an, cdv, ct, osl, rfl, l, c⟩, k⟩
theorem FunG.binds (F : FunG K x qual st f fd .none)
    (h : ∀ (kV doc pm : Value) (an : Option Addr) (cdv ct : Value) (us : List Value), us.length = ps.length → bindArgs (PySem.W.fnOf x qual (defArgs st) (defBody st) (defScope st) .none kV doc pm an cdv ct) ⟨us, []⟩ = pure (ps.zip us)) : Binds K fd ps [] := by
  obtain ⟨oc, od, kV, doc, pm, an, cdv, ct, osl, rfl, lk, hcd⟩ := F.ex
  exact Binds.all fun us hl => h kV doc pm an cdv ct us hl
end

structure Df (K : PySem.W.Frag) (mg : Str → Option Value) (x : Str) (st : Stmt) (ps : List Str) (f : Addr) (fd : FuncData) : Prop where
  fn : FunG K x x st f fd .none
  gl : mg x = some (.ref f)
  bd : Binds K fd ps []

noncomputable def gs (g : Bool) : Str := if g then "dry" else "wet"
theorem gs_inj {a b : Bool} : gs a = gs b ↔ a = b := by cases a <;> cases b <;> decide +kernel
noncomputable def RowAt (H : Hp) (v : V) (r : Bk.Rw) : Prop := ∃ p, v = .ref p ∧ H p = some (.tup [.str (gs r.1), .int r.2])
noncomputable abbrev RowsAt (H : Hp) : List V → List Bk.Rw → Prop := Paired (RowAt H)
noncomputable def Tps (H H' : Hp) : Prop := ∀ b xs, H b = some (.tup xs) → H' b = some (.tup xs)
theorem Same.tps {H H' : Hp} (h : Same H H') : Tps H H' := fun b xs e => h b _ e
theorem Tps.trans {H H1 H2 : Hp} (a : Tps H H1) (b : Tps H1 H2) : Tps H H2 := fun c xs e => b c xs (a c xs e)
theorem RowAt.mono {H H' : Hp} {v : V} {r : Bk.Rw} (h : RowAt H v r) (t : Tps H H') : RowAt H' v r := let ⟨p, e, q⟩ := h; ⟨p, e, t p _ q⟩
theorem RowsAt.mono {H H' : Hp} {vs : List V} {rs : List Bk.Rw} (h : RowsAt H vs rs) (t : Tps H H') : RowsAt H' vs rs := Paired.mapP h fun _ _ q => q.mono t
theorem RowsAt.get {H : Hp} : ∀ {vs : List V} {rs : List Bk.Rw} {i : Nat} {v : V}, RowsAt H vs rs → vs[i]? = some v → ∃ r, rs[i]? = some r ∧ RowAt H v r
  | _, _, 0, _, .cons h _, e => by simp at e; subst e; exact ⟨_, by simp, h⟩
  | _, _, i + 1, _, .cons _ t, e => by
    obtain ⟨r, h1, h2⟩ := RowsAt.get (i := i) t (by simpa using e)
    exact ⟨r, by simpa using h1, h2⟩
  | _, _, _, _, .nil, e => by simp at e
theorem RowsAt.split {H : Hp} {rs : List Bk.Rw} {r : Bk.Rw} : ∀ {vs : List V}, RowsAt H vs (rs ++ [r]) → ∃ ws v, vs = ws ++ [v] ∧ RowsAt H ws rs ∧ RowAt H v r := by
  induction rs with
  | nil =>
    intro vs h
    cases h with
    | cons h1 t => cases t; exact ⟨[], _, rfl, .nil, h1⟩
  | cons a rs ih =>
    intro vs h
    cases h with
    | cons h1 t =>
      obtain ⟨ws, v, rfl, h2, h3⟩ := ih t
      exact ⟨_ :: ws, v, rfl, .cons h1 h2, h3⟩
theorem same_new {H : Hp} {p : Addr} {o : HO} (h : H p = none) : Same H (upd H p o) := fun b u e => by rw [upd_ne (ne_of_none e h)]; exact e
theorem Same.write {H H1 : Hp} {p : Addr} {o : HO} (s : Same H H1) (h : H p = none) : Same H (upd H1 p o) := fun b u e => by rw [upd_ne (ne_of_none e h)]; exact s b u e
noncomputable def rowD (r : Bk.Rw) : PyData := .tuple [.str (gs r.1), .int r.2]
noncomputable def rowsD (rs : List Bk.Rw) : PyData := .list (rs.map rowD)
theorem rowAt_dat {K : PySem.W.Frag} {H : Hp} {v : V} {r : Bk.Rw} (h : RowAt H v r) : DatR K H (rowD r) v := by
  obtain ⟨p, rfl, e⟩ := h
  exact ⟨p, _, rfl, SqT.of e, _, _, rfl, rfl, _, _, rfl, rfl, rfl⟩
theorem rowsAt_dat {K : PySem.W.Frag} {H : Hp} : ∀ {vs : List V} {rs : List Bk.Rw}, RowsAt H vs rs → DatA K H (rs.map rowD) vs
  | _, _, .nil => rfl
  | _, _, .cons h t => ⟨_, _, rfl, rowAt_dat h, rowsAt_dat t⟩
theorem rows_dat {K : PySem.W.Frag} {H : Hp} {a : Addr} {vs : List V} {rs : List Bk.Rw} (h : SqL K H a vs) (r : RowsAt H vs rs) : DatR K H (rowsD rs) (.ref a) := ⟨a, vs, rfl, h, rowsAt_dat r⟩
theorem gs_ok (g : Bool) : PyData.strOk (gs g) = true := by cases g <;> decide +kernel
theorem rowsD_can (rs : List Bk.Rw) : (rowsD rs).canLay0 = true := by
  show PyData.canLayAll0 (rs.map rowD) = true
  induction rs with
  | nil => rfl
  | cons r t ih =>
    show (PyData.canLay0 (rowD r) && PyData.canLayAll0 (t.map rowD)) = true
    rw [ih, Bool.and_true]
    show (PyData.canLay0 (.str (gs r.1)) && (PyData.canLay0 (.int r.2) && true)) = true
    show (PyData.strOk (gs r.1) && (true && true)) = true
    rw [gs_ok]; rfl
theorem rowsD_depth (rs : List Bk.Rw) : (rowsD rs).depth ≤ 8 := by
  have : ∀ l : List Bk.Rw, PyData.depthAll (l.map rowD) ≤ 4 := by
    intro l
    induction l with
    | nil => simp [PyData.depthAll]
    | cons r t ih =>
      simp only [List.map_cons, PyData.depthAll, rowD, PyData.depth]
      (first | lia | omega)
  have h := this rs
  simp only [rowsD, PyData.depth]
  (first | lia | omega)
theorem eqv_rows : ∀ (a b : List Bk.Rw), PyData.eqv (rowsD a) (rowsD b) = decide (a = b) := by
  intro a b
  show PyData.eqvAll (a.map rowD) (b.map rowD) = decide (a = b)
  induction a generalizing b with
  | nil => cases b <;> simp [PyData.eqvAll]
  | cons r t ih =>
    cases b with
    | nil => simp [PyData.eqvAll]
    | cons q u =>
      simp only [List.map_cons, PyData.eqvAll, ih u]
      have : PyData.eqv (rowD r) (rowD q) = decide (r = q) := by
        obtain ⟨g, l⟩ := r
        obtain ⟨g', l'⟩ := q
        simp only [rowD, PyData.eqv, PyData.eqvAll, Bool.and_true]
        have e : (gs g == gs g') = decide (g = g') := by cases g <;> cases g' <;> decide +kernel
        rw [e]
        by_cases h1 : g = g' <;> by_cases h2 : l = l' <;> simp [h1, h2]
      rw [this]
      by_cases h1 : r = q <;> by_cases h2 : t = u <;> simp [h1, h2]
end L2

set_option Elab.async false
set_option linter.all false
set_option maxRecDepth 100000
namespace L2
open PySem PySem.Spec PyProof.Rows
noncomputable def Nx (n i : Nat) (P : Prop) : Prop := ∃ m', m' < n - i ∧ m' = n - (i + 1) ∧ i + 1 ≤ n ∧ P
theorem nx {n i : Nat} {P : Prop} (h : i < n) (p : P) : Nx n i P := ⟨n - (i + 1), by (first | lia | omega), rfl, h, p⟩
theorem comp_list {K : PySem.W.Frag} {a p : Addr} {xs : List V} {g : TG} {tt : TT} {te : TE} {σc : St} {H0 : Hp} {R : Hp → Prop} (Pv : Nat → List V → Hp → Prop) (h0 : Pv 0 [] H0) (hl : ∀ i ys H, Pv i ys H → SqL K H a xs ∧ H p = some (.lst ys))
    (hs : ∀ i x ys H, i < xs.length → xs[i]? = some x → Pv i ys H → g x σc H fun σ2 H2 => Wk σc σ2 ∧ tt σ2 H2 fun b H3 =>
      if b = true then te σ2 H3 fun y H4 => H4 p = some (.lst ys) ∧ ys.length < sizeLine ∧ Nx xs.length i (Pv (i + 1) (ys ++ [y]) (upd H4 p (.lst (ys ++ [y])))) else Nx xs.length i (Pv (i + 1) ys H3))
    (hd : ∀ ys H, Pv xs.length ys H → R H) : ∃ W : Nat → Nat → List V → Hp → Prop, (∃ m, W 0 m [] H0) ∧ cTurn (Itl K a) g tt te σc p W R := by
  refine ⟨fun i m ys H => m = xs.length - i ∧ i ≤ xs.length ∧ Pv i ys H, ⟨xs.length, by simp, Nat.zero_le _, h0⟩, ?_⟩
  rintro i m ys H ⟨rfl, hi, q⟩
  obtain ⟨q1, q2⟩ := hl i ys H q
  refine ⟨q2, ?_⟩
  by_cases hlt : i < xs.length
  · refine .inr ⟨⟨xs, xs[i], q1, by simp [hlt]⟩, fun x H' y => ?_⟩
    obtain ⟨e, y⟩ := y
    subst e
    exact hs i x ys H' hlt (y xs q1) q
  · have e : i = xs.length := by (first | lia | omega)
    subst e
    exact .inl ⟨⟨xs, q1, Nat.le_refl _⟩, hd ys H q⟩
theorem comp_range {lo : Int} {n : Nat} {p : Addr} {g : TG} {tt : TT} {te : TE} {σc : St} {H0 : Hp} {R : Hp → Prop} (Pv : Nat → List V → Hp → Prop) (h0 : Pv 0 [] H0) (hl : ∀ i ys H, Pv i ys H → H p = some (.lst ys))
    (hs : ∀ i ys H, i < n → Pv i ys H → g (.int (lo + i)) σc H fun σ2 H2 => Wk σc σ2 ∧ tt σ2 H2 fun b H3 =>
      if b = true then te σ2 H3 fun y H4 => H4 p = some (.lst ys) ∧ ys.length < sizeLine ∧ Nx n i (Pv (i + 1) (ys ++ [y]) (upd H4 p (.lst (ys ++ [y])))) else Nx n i (Pv (i + 1) ys H3))
    (hd : ∀ ys H, Pv n ys H → R H) : ∃ W : Nat → Nat → List V → Hp → Prop, (∃ m, W 0 m [] H0) ∧ cTurn (Itr lo n) g tt te σc p W R := by
  refine ⟨fun i m ys H => m = n - i ∧ i ≤ n ∧ Pv i ys H, ⟨n, by simp, Nat.zero_le _, h0⟩, ?_⟩
  rintro i m ys H ⟨rfl, hi, q⟩
  refine ⟨hl i ys H q, ?_⟩
  by_cases hlt : i < n
  · refine .inr ⟨hlt, fun x H' y => ?_⟩
    obtain ⟨e, y⟩ := y
    subst e y
    exact hs i ys H' hlt q
  · have e : i = n := by (first | lia | omega)
    subst e
    exact .inl ⟨Nat.le_refl _, hd ys H q⟩
theorem yes {σ : St} {H : Hp} {A B : Hp → Prop} (h : A H) : tYes σ H fun b H3 => if b = true then A H3 else B H3 := by
  show if true = true then A H else B H
  exact iteT (A := A H) (B := B H) h
section
variable {X : Cx} {K : PySem.W.Frag}
theorem ix_tupK (h : X.K = K) : IxR X (rIxT K) := h ▸ ix_tup
theorem ix_listK (h : X.K = K) : IxR X (rIxL K) := h ▸ ix_list
theorem pg_tupK {es : List Expr} {k : Nat} {pos : Pos} {t : TGs} {n : Nat} (h : X.K = K) (hc : X.calm = true) (g : PGs X es t) (hn : (assignEach es X.env).length = n := by rfl) (hst : (assignEach es X.env).findIdx? (·.1) = none := by rfl) : PG X (.Tuple es k pos) (gTup K n t) := h ▸ pg_tup hc g hn hst
end
end L2

set_option Elab.async false
set_option linter.all false
set_option maxRecDepth 100000
set_option maxHeartbeats 4000000
namespace L2
open PySem PySem.Spec PyProof.Rows


section
variable {prog : Program} {w : World} {A : Around} {E : Value → Shared → Prop} {s : Shared} {K : PySem.W.Frag} {C aB f e t : Addr} {od : Option Addr}


end
end L2

set_option Elab.async false
set_option linter.all false
set_option maxRecDepth 100000
set_option maxHeartbeats 4000000
namespace L2
open PySem PySem.Spec PyProof.Rows
open Builtin Builtin.ObjectAttr

section
variable {prog : Program} {w : World} {A : Around} {E : Value → Shared → Prop} {s : Shared} {K : PySem.W.Frag} {C aB f e t : Addr} {od : Option Addr} {name : Str} {v : Value}


end
end L2

set_option Elab.async false
set_option linter.all false
set_option maxRecDepth 100000
set_option maxHeartbeats 4000000
namespace L2
open PySem PySem.Spec PyProof.Rows


section
variable {X : Cx} {pins : List (Addr × Obj)} {σ : St} {H : Hp} {s : Shared} {a C : Addr} {φ : Heap → Prop}
end

section
variable {X : Cx} {x : Str} {j : Nat} {cp vp jp : Pos} {te : TE} {val : Expr}
end

section
variable {X : Cx} {x : Str} {np apos pos : Pos} {aB : Addr} {e : Expr} {es : List Expr} {t : TA}
end

section
variable {X : Cx} {o value : Expr} {nm : Str} {pos pos' : Pos} {ta tv : TE}
end

section
variable {X : Cx} {E : XK} {C aB f : Addr} {fd : FuncData} {ps : List Str} {sp : Sp} {k : Nat} {x : Str} {np cpos pos : Pos} {e : Expr} {es : List Expr} {t : TA}
end

section
variable {X : Cx} {o : Expr} {nm : Str} {pos : Pos} {ta : TE}
end
end L2

set_option Elab.async false
set_option linter.all false
set_option maxRecDepth 100000
set_option maxHeartbeats 4000000
namespace L2
open PySem PySem.Spec PyProof.Rows

theorem dk_empty {P : Program} {w : World} {H : Hp} (h : Heap) (hb : sysModules < h.objs.size) : ObjOk P w H (h.push { cls := .type "dict", data := .dict #[] }) h.objs.size (.dK []) :=
  ⟨Nat.zero_le _, beq_eq_false_iff_ne.mpr (Ne.symm (Nat.ne_of_lt hb)), [], .nil, Heap.DictOf.new h⟩
noncomputable def tDNewK : TE := fun _ H Q => ∀ p, H p = none → Q (.ref p) (upd H p (.dK []))
section
variable {X : Cx} {pins : List (Addr × Obj)} {σ : St} {H : Hp} {s : Shared} {pos : Pos}
theorem Inv.big (I : Inv X pins σ H s) : sysModules < s.heap.objs.size := by
  have h : mainGlobals < s.heap.objs.size := (I.mod.glob.keeps I.bk).lt
  exact Nat.lt_trans (by decide) h
theorem pe_dnewK : PE X (.Dict [] [] pos) tDNewK := fun pins s σ H Q I h =>
  wpAny_Dict_empty ⟨.ref s.heap.objs.size, _, I.laid (a := s.heap.objs.size) (o := .dK []) (t' := s.toks) (fun _ _ q => Heap.get?_push_of_some _ q) (Nat.le_refl _) (dk_empty s.heap I.big), rfl, h _ (I.hok.fresh (Nat.le_refl _))⟩
end

theorem atI_in {L : List V} {i : Int} (h0 : 0 ≤ i) (h1 : i < L.length) : ∃ v, v ∈ L ∧ atI L i = some v := by
  have hk : i.toNat < L.length := by (first | lia | omega)
  refine ⟨L[i.toNat], List.getElem_mem hk, ?_⟩
  have e : i = ((i.toNat : Nat) : Int) := by (first | lia | omega)
  have h := atI_nat (xs := L) (j := i.toNat) (v := L[i.toNat]) (List.getElem?_eq_getElem hk)
  rw [← e] at h
  exact h
end L2

set_option Elab.async false
set_option linter.all false
set_option maxRecDepth 100000
namespace L2
open PySem PySem.Spec PyProof.Rows
section
variable {X : Cx} {x y : Str} {cp vp dp jp : Pos} {te : TE} {val : Expr}
end
end L2

set_option Elab.async false
set_option linter.all false
set_option maxRecDepth 100000
namespace L2
open PySem PySem.Spec PyProof.Rows
section
variable {X : Cx}
theorem op_notB : OpR X (compareOp .IsNot) (fun x y H Q => ∃ b c, x = .bl b ∧ y = .bl c ∧ Q (.bl (!(b == c))) H) := by
  intro pins s σ H x y v u Q I rx ry h
  obtain ⟨b, c, rfl, rfl, q⟩ := h
  cases rx
  cases ry
  exact isnot_bool (fin_bl I q rfl)
end
end L2

set_option Elab.async false
set_option linter.all false
set_option maxRecDepth 100000
namespace L2
open PySem PySem.Spec PyProof.Rows
theorem lri_no_len : typeLookup (.type "list_reverseiterator") "__len__" = pure none := by rw [typeLookup_type, builtinLookup_eq_fast]; kernel_rfl
theorem lri_hint : typeLookup (.type "list_reverseiterator") "__length_hint__" = pure (some (.builtin "list_reverseiterator.__length_hint__")) := by rw [typeLookup_type, builtinLookup_eq_fast]; kernel_rfl
section
variable {prog : Program} {w : World} {A : Around} {E : Value → Shared → Prop} {s : Shared}
theorem hint_rev {I l : Addr} {i : Int} {Q : Bool → Shared → Prop} (hr : s.heap.IsRevIter I l i) (h : Q false s) : wpAny (model prog w) A (Builtin.List.listLengthHint (.ref I)) Q E s := by
  unfold Builtin.List.listLengthHint
  refine wpAny_bind (wpAny_specialOf hr.typeIs lri_no_len ?_)
  show wpAny _ _ (specialOf (Value.ref I) (Str.ofString "__length_hint__") >>= _) _ _ _
  refine wpAny_bind (wpAny_specialOf hr.typeIs lri_hint ?_)
  wp_delta
  refine wpAny_bind (wpAny_isInstance (T := "list_reverseiterator") (b := true) hr.typeIs (by rw [isSubtype_type]; kernel_rfl) ?_)
  exact wpAny_pure h
theorem extend_rev {R : Result → Shared → Prop} {I l : Addr} {items : Array Value} (hh : A.handled = none) (hl : s.heap.IsList l items) (hr : s.heap.IsRevIter I l ((items.size : Int) - 1)) (hlen : items.size ≤ sizeLine) (S : Addr) (res : Value) (c₀ : Nat) (hS : s.heap.get? S = some { cls := .type "list", data := .seq #[] c₀ })
    (hSl : S ≠ l) (hR : ∀ h' tk acc' c', (∀ b o, b ≠ S → b ≠ I → s.heap.get? b = some o → h'.get? b = some o) → h'.get? S = some { cls := .type "list", dict := none, data := .seq acc' c', slots := #[] } →
      ItemsOf (fun i v => items[items.size - 1 - i]? = some v) acc' items.size → R (.ok (.ret res)) { s with heap := h', toks := tk }) :
    wpAny (model prog w) A.in1 (Builtin.List.listExtendWith (.ref S) (.ref I) res)
      (fun fin s' => match fin with | .done f => R (.ok f) s' | .again c' => c'.quiet = true ∧ codeAny (model prog w) A c' R s') (fun e s' => R (.error e) s') s := by
  have hlI : l ≠ I := fun e => by
    obtain ⟨o, h1, h2, _⟩ := hr
    obtain ⟨o', h3, h4, _⟩ := hl
    rw [e, h1] at h3; cases h3
    rw [h2] at h4; exact absurd h4 (by decide)
  have hSI : S ≠ I := fun e => by
    obtain ⟨o, h1, h2, _⟩ := hr
    rw [e, h1] at hS; cases hS; exact absurd (show Value.type "list" = Value.type "list_reverseiterator" from h2) (by decide)
  have hSf : S ∉ [I, l] := fun hm => by
    rcases List.mem_cons.mp hm with e | e
    · exact hSI e
    · exact hSl (List.mem_singleton.mp e)
  have W := (Walks.listRev (prog := prog) (w := w) (A := A.in1) hh I l hlI items).toS
  unfold Builtin.List.listExtendWith
  refine wpAny_bind (wpAny_typeOf hr.typeIs ?_)
  have h1 : Builtin.List.listSameRef (.ref S) (.ref I) = false := by simp [Builtin.List.listSameRef, hSI]
  have h2 : (Value.type "list_reverseiterator" == Value.type "list") = false := by decide
  have h3 : (Value.type "list_reverseiterator" == Value.type "tuple") = false := by decide
  simp only [h1, h2, h3, Bool.or_false, Bool.false_eq_true, if_false]
  refine wpAny_bind (wpAny_pyIter_revIter hr ?_)
  refine wpAny_bind (wpAny_holding (hint_rev hr ?_))
  rw [if_neg (by decide)]
  refine wpAny_pure ⟨plainId_quiet F.plain_extend_loop _, codeAny_extend_loopS W hlen _ hSf _ items.size 0 _ _ _ rfl (Nat.zero_le _) ⟨Nat.zero_le _, by simpa using hr, hl⟩ hS (ItemsOf.nil _) fun s' acc' c' hm hS' hacc => ?_⟩
  rw [Moved.eq_with hm]
  refine hR s'.heap s'.toks acc' c' (fun b ob hb hb2 e => hm.heap b ob (fun hmem => ?_) e) hS' hacc
  rcases List.mem_cons.mp hmem with e' | hmem
  · exact hb e'
  · exact hb2 (List.mem_singleton.mp hmem)
theorem init_rev {R : Result → Shared → Prop} {I l : Addr} {items : Array Value} (hh : A.handled = none) (hl : s.heap.IsList l items) (hr : s.heap.IsRevIter I l ((items.size : Int) - 1)) (hlen : items.size ≤ sizeLine) (S : Addr) (hS : s.heap.get? S = some { cls := .type "list", data := .seq #[] })
    (hSl : S ≠ l) (hSI : S ≠ I) (hR : ∀ h' tk acc' c', (∀ b o, b ≠ S → b ≠ I → s.heap.get? b = some o → h'.get? b = some o) → h'.get? S = some { cls := .type "list", dict := none, data := .seq acc' c', slots := #[] } →
      ItemsOf (fun i v => items[items.size - 1 - i]? = some v) acc' items.size → R (.ok (.ret .none)) { s with heap := h', toks := tk }) :
    wpAny (model prog w) A.in1 (Builtin.«list.__init__» ⟨[.ref S, .ref I], []⟩)
      (fun fin s' => match fin with | .done f => R (.ok f) s' | .again c' => c'.quiet = true ∧ codeAny (model prog w) A c' R s') (fun e s' => R (.error e) s') s := by
  show wpAny _ _ (do let old ← Builtin.List.listItems (.ref S); Builtin.List.listUpdate (.ref S) (fun _ => #[]); letGo old.toList.reverse; Builtin.List.listExtendWith (.ref S) (.ref I) .none) _ _ s
  refine wpAny_bind ?_
  unfold Builtin.List.listItems
  refine wpAny_bind (wpAny_seqItems hS rfl (wpAny_pure ?_))
  show wpAny _ _ (updateSeq S (fun _ => #[]) >>= fun _ => letGo (#[] : Array Value).toList.reverse >>= fun _ => Builtin.List.listExtendWith (.ref S) (.ref I) .none) _ _ s
  refine wpAny_bind (wpAny_updateSeq hS rfl ?_)
  have hS₂ := Heap.get?_update_self (Obj.mapSeq (fun _ => (#[] : Array Value))) hS rfl
  have oth : ∀ b o, b ≠ S → s.heap.get? b = some o → (s.heap.update S (Obj.mapSeq (fun _ => (#[] : Array Value)))).get? b = some o :=
    fun b o hb e => (Heap.get?_update_other _ _ (Ne.symm hb)).trans e
  refine wpAny_bind (wpAny_letGo ?_)
  refine extend_rev hh (hl.at fun o e => oth l o (Ne.symm hSl) e) (hr.at fun o e => oth I o (Ne.symm hSI) e) hlen S .none _ hS₂ hSl fun h' tk acc' c' hk hS' hacc => ?_
  exact hR h' tk acc' c' (fun b o hb hb2 e => hk b o hb hb2 (oth b o hb e)) hS' hacc
theorem list_rev {Q : Value → Shared → Prop} {I l : Addr} {items : Array Value} (hh : A.handled = none) (hl : s.heap.IsList l items) (hr : s.heap.IsRevIter I l ((items.size : Int) - 1)) (hlen : items.size ≤ sizeLine)
    (hQ : ∀ h' tk acc' c', (∀ b o, b ≠ I → s.heap.get? b = some o → h'.get? b = some o) →
      h'.get? s.heap.objs.size = some { cls := .type "list", dict := none, data := .seq acc' c', slots := #[] } → ItemsOf (fun i v => items[items.size - 1 - i]? = some v) acc' items.size → Q (.ref s.heap.objs.size) { s with heap := h', toks := tk }) :
    wpAny (model prog w) A (call (.type "list") [.ref I]) Q E s := by
  refine callType_codes (Q₁ := fun obj s₁ => obj = .ref s.heap.objs.size ∧ s₁ = { s with heap := s.heap.push { cls := .type "list", data := .seq #[] } }) F.called_list (F.typeCall_list_1 _) F.entry_list_init
    (code_list_new _ ⟨rfl, rfl⟩) fun obj s₁ h₁ => ?_
  obtain ⟨rfl, rfl⟩ := h₁
  have hS : (s.heap.push { cls := .type "list", data := .seq #[] }).get? s.heap.objs.size = some { cls := .type "list", data := .seq #[] } := Heap.get?_push_size _ rfl
  have ltl : l < s.heap.objs.size := by obtain ⟨o, q, _⟩ := hl; exact Heap.lt_size q
  have ltI : I < s.heap.objs.size := by obtain ⟨o, q, _⟩ := hr; exact Heap.lt_size q
  refine ⟨⟨_, hS, rfl⟩, F.args_list_init_2 _ _, init_rev (A := A.in1) hh (hl.at fun o e => Heap.get?_push_of_some _ e) (hr.at fun o e => Heap.get?_push_of_some _ e) hlen _ hS (Nat.ne_of_gt ltl) (Nat.ne_of_gt ltI) fun h' tk acc' c' hk hS' hacc => ?_⟩
  exact ⟨rfl, hQ h' tk acc' c' (fun b o hb e => hk b o (Nat.ne_of_lt (Heap.lt_size e)) hb (Heap.get?_push_of_some _ e)) hS' hacc⟩
end
theorem rev_items {its : List Value} {acc : Array Value} (h : ItemsOf (fun i v => its.toArray[its.toArray.size - 1 - i]? = some v) acc its.toArray.size) : acc = its.reverse.toArray := by
  obtain ⟨h1, h2⟩ := h
  apply Array.ext_getElem?
  intro i
  by_cases hi : i < acc.size
  · have e := h2 i acc[i] (Array.getElem?_eq_getElem hi)
    rw [Array.getElem?_eq_getElem hi]
    have hi2 : i < its.length := by rw [h1] at hi; simpa using hi
    have e3 : its.reverse[i]? = its[its.length - 1 - i]? := List.getElem?_reverse hi2
    have e2 : its.reverse.toArray[i]? = its.reverse[i]? := by simp
    rw [e2, e3]
    rw [← e]; simp
  · rw [Array.getElem?_eq_none (by (first | lia | omega)), Array.getElem?_eq_none]
    simp at h1 ⊢; (first | lia | omega)
section
variable {X : Cx} {x y : Str} {p p2 pos pos2 : Pos} {e : Expr} {ta : TA}
noncomputable def tLRev (K : PySem.W.Frag) (ta : TA) : TE := fun σ H Q => ta σ H fun vs H1 => ∃ a xs, vs = [.ref a] ∧ SqL K H1 a xs ∧ ∀ l, H1 l = none → Q (.ref l) (upd H1 l (.lst xs.reverse))
theorem pe_lrev (hc : X.calm = true) (hg : Gl X "list") (hm : X.mg "list" = none) (hg2 : Gl X "reversed") (hm2 : X.mg "reversed" = none) (ha : PA X [e] ta)
    (he : starEach [Expr.Call (.Name "reversed" p2) [e] [] pos2] X.env = [(false, eval (Expr.Call (.Name "reversed" p2) [e] [] pos2) X.env)] := by rfl) (he2 : starEach [e] X.env = [(false, eval e X.env)] := by rfl) :
    PE X (.Call (.Name "list" p) [.Call (.Name "reversed" p2) [e] [] pos2] [] pos) (tLRev X.K ta) := by
  intro pins s σ H Q I h
  refine wpAny_Call_Name_kw (ld_blt I hg hm PyProof.Rows.boot_list ?_)
  refine PyProof.Rows.callWith_type1 ?_ he rfl
  rw [he]
  show wpAny _ _ (spliced [(false, eval (Expr.Call (.Name "reversed" p2) [e] [] pos2) X.env)]) _ _ _
  refine Calls.spliced_cons ?_
  refine wpAny_Call_Name_kw (ld_blt I hg2 hm2 (u := .type "reversed") PyProof.Rows.Boot.«reversed» ?_)
  refine PyProof.Rows.callWith_type1 (thn (ha pos2 pins s σ H _ I h) fun us s1 ⟨vs, H1, I1, r1, q1⟩ => ?_) he2 rfl
  obtain ⟨l, xs, rfl, hx, q⟩ := q1
  obtain ⟨u, rfl, rx⟩ := vals1 r1
  cases rx
  obtain ⟨its, rv, pl, hz⟩ := I1.list hx
  have hlen := rv.length
  refine call_reversed_list pl.isList (Calls.spliced_nil ?_)
  refine list_rev (items := its.toArray) (l := l) (I1.ok.hd hc) (pl.isList.at fun o e => Heap.get?_push_of_some _ e) ⟨_, Heap.get?_push_size _ rfl, rfl, rfl⟩ (by rw [List.size_toArray]; (first | lia | omega)) fun h' tk acc c' hk hS hacc => ?_
  have ea := rev_items hacc
  subst ea
  have kp : ∀ b o, s1.heap.get? b = some o → h'.get? b = some o := fun b o e => hk b o (Nat.ne_of_lt (Heap.lt_size e)) (Heap.get?_push_of_some _ e)
  have le : s1.heap.objs.size ≤ (s1.heap.push (revObj l ((its.toArray.size : Int) - 1))).objs.size := by simp [Heap.push]
  exact ⟨.ref _, _, I1.laid (t' := tk) kp le (show ObjOk X.prog X.w _ h' _ (.lst xs.reverse) from ⟨by rw [List.length_reverse]; exact hz, _, c', rv.reverse, hS⟩), rfl, q _ (I1.hok.fresh le)⟩
end
end L2

set_option linter.all false
namespace Bk
noncomputable def Alt : List Rw → Prop
  | [] => True
  | [_] => True
  | a :: b :: t => a.1 ≠ b.1 ∧ Alt (b :: t)
theorem alt_snoc : ∀ {rs : List Rw} {r : Rw}, Alt rs → (∀ b, rs.getLast? = some b → b.1 ≠ r.1) → Alt (rs ++ [r])
  | [], r, _, _ => True.intro
  | [a], r, _, h => ⟨h a rfl, True.intro⟩
  | a :: b :: t, r, h, q => ⟨h.1, alt_snoc (rs := b :: t) h.2 (fun c e => q c (by rw [← e]; simp [List.getLast?_cons_cons]))⟩
end Bk

set_option linter.all false
namespace Bk
noncomputable def cum (g : Bool) (x : Int) : Int → List Rw → Int
  | _, [] => 0
  | b, r :: t => (if r.1 = g then max (min r.2 (x - b)) 0 else 0) + cum g x (b + r.2) t
theorem clip_add {l t y : Int} (h0 : 0 ≤ l) (h1 : 0 ≤ t) : max (min (l + t) y) 0 = max (min l y) 0 + max (min t (y - l)) 0 := by
  by_cases h : y ≤ l
  · rw [show max (min t (y - l)) 0 = 0 by (first | lia | omega), show min (l + t) y = min l y by (first | lia | omega)]; (first | lia | omega)
  · rw [show min l y = l by (first | lia | omega), show min (l + t) y = l + min t (y - l) by (first | lia | omega)]
    generalize hu : min t (y - l) = u
    have : 0 ≤ u := by (first | lia | omega)
    (first | lia | omega)
theorem cum_low (g : Bool) (x : Int) : ∀ (rs : List Rw) (b : Int), (∀ r ∈ rs, 0 ≤ r.2) → x ≤ b → cum g x b rs = 0
  | [], _, _, _ => rfl
  | r :: t, b, h, hb => by
    have hr := h r List.mem_cons_self
    have ih := cum_low g x t (b + r.2) (fun y hy => h y (List.mem_cons_of_mem _ hy)) (by (first | lia | omega))
    simp only [cum, ih]
    split
    · (first | lia | omega)
    · (first | lia | omega)
theorem cum_high (g : Bool) (x : Int) : ∀ (rs : List Rw) (b : Int), (∀ r ∈ rs, 0 ≤ r.2) → b + tot rs ≤ x → cum g x b rs = sm g rs
  | [], _, _, _ => rfl
  | r :: t, b, h, hb => by
    have hr := h r List.mem_cons_self
    have h' : ∀ y ∈ t, 0 ≤ y.2 := fun y hy => h y (List.mem_cons_of_mem _ hy)
    have ht := tot_nonneg t h'
    simp only [tot] at hb
    have ih := cum_high g x t (b + r.2) h' (by (first | lia | omega))
    simp only [cum, sm, ih]
    split
    · (first | lia | omega)
    · (first | lia | omega)
theorem cum_append (g : Bool) (x : Int) : ∀ (a c : List Rw) (b : Int), cum g x b (a ++ c) = cum g x b a + cum g x (b + tot a) c
  | [], c, b => by simp [cum, tot]
  | r :: t, c, b => by
    have ih := cum_append g x t c (b + r.2)
    simp only [List.cons_append, cum, tot, ih]
    rw [show b + r.2 + tot t = b + (r.2 + tot t) by (first | lia | omega)]
    (first | lia | omega)

end Bk

set_option linter.all false
namespace Bk
theorem alt_set (l : Int) : ∀ (rs : List Rw) (k : Nat) (r : Rw), rs[k]? = some r → Alt rs → Alt (rs.set k (r.1, l))
  | [], k, r, h, _ => by simp at h
  | [q], 0, r, h, _ => True.intro
  | [q], k + 1, r, h, _ => by simp at h
  | q :: q2 :: t, 0, r, h, a => by
    have e : q = r := by simpa using h
    subst e
    exact ⟨a.1, a.2⟩
  | q :: q2 :: t, 1, r, h, a => by
    have e : q2 = r := by simpa using h
    subst e
    have ih := alt_set l (q2 :: t) 0 q2 rfl a.2
    exact ⟨a.1, ih⟩
  | q :: q2 :: t, k + 2, r, h, a => by
    have ih := alt_set l (q2 :: t) (k + 1) r (by simpa using h) a.2
    exact ⟨a.1, ih⟩
end Bk

set_option linter.all false
namespace Bk
end Bk

set_option Elab.async false
set_option linter.all false
set_option maxRecDepth 100000
namespace L2
open PySem PySem.Spec PyProof.Rows
noncomputable abbrev Pc : Type := Int × Int
noncomputable def PcAt (H : Hp) (v : V) (p : Pc) : Prop := ∃ q, v = .ref q ∧ H q = some (.tup [.int p.1, .int p.2])
noncomputable abbrev PcsAt (H : Hp) : List V → List Pc → Prop := Paired (PcAt H)
theorem PcAt.mono {H H' : Hp} {v : V} {r : Pc} (h : PcAt H v r) (t : Tps H H') : PcAt H' v r := let ⟨p, e, q⟩ := h; ⟨p, e, t p _ q⟩
theorem PcsAt.mono {H H' : Hp} {vs : List V} {rs : List Pc} (h : PcsAt H vs rs) (t : Tps H H') : PcsAt H' vs rs := Paired.mapP h fun _ _ q => q.mono t
theorem paired_get {α β : Type} {F : α → β → Prop} : ∀ {vs : List α} {rs : List β} {i : Nat} {v : α}, Paired F vs rs → vs[i]? = some v → ∃ r, rs[i]? = some r ∧ F v r
  | _, _, 0, _, .cons h _, e => by simp at e; subst e; exact ⟨_, by simp, h⟩
  | _, _, i + 1, _, .cons _ t, e => by
    obtain ⟨r, h1, h2⟩ := paired_get (i := i) t (by simpa using e)
    exact ⟨r, by simpa using h1, h2⟩
  | _, _, _, _, .nil, e => by simp at e
noncomputable def ShAt (H : Hp) (a : Addr) (ps : List Pc) : Prop := ∃ xs, H a = some (.lst xs) ∧ PcsAt H xs ps
noncomputable abbrev ShsAt (H : Hp) : List Addr → List (List Pc) → Prop := Paired (ShAt H)
theorem ShAt.mono {H H' : Hp} {a : Addr} {ps : List Pc} (h : ShAt H a ps) (s : Same H H') : ShAt H' a ps := let ⟨xs, e, q⟩ := h; ⟨xs, s _ _ e, q.mono s.tps⟩
theorem ShsAt.mono {H H' : Hp} {as : List Addr} {S : List (List Pc)} (h : ShsAt H as S) (s : Same H H') : ShsAt H' as S := Paired.mapP h fun _ _ q => q.mono s
noncomputable def SsAt (H : Hp) (p : Addr) (as : List Addr) (S : List (List Pc)) : Prop := H p = some (.lst (as.map V.ref)) ∧ ShsAt H as S
theorem SsAt.mono {H H' : Hp} {p : Addr} {as : List Addr} {S : List (List Pc)} (h : SsAt H p as S) (s : Same H H') : SsAt H' p as S := ⟨s _ _ h.1, h.2.mono s⟩
theorem ShAt.write {H : Hp} {a c : Addr} {o : HO} {ps : List Pc} {xs : List V} (h : ShAt H a ps) (n : a ≠ c) (hc : H c = some (.lst xs)) : ShAt (upd H c o) a ps := by
  obtain ⟨ys, e, q⟩ := h
  refine ⟨ys, by rw [upd_ne n]; exact e, q.mono fun b zs z => ?_⟩
  rw [upd_ne (fun y => by rw [y, hc] at z; cases z)]; exact z
theorem ShsAt.write {H : Hp} {c : Addr} {o : HO} {xs : List V} (hc : H c = some (.lst xs)) : ∀ {as : List Addr} {S : List (List Pc)}, ShsAt H as S → (∀ a ∈ as, a ≠ c) → ShsAt (upd H c o) as S
  | _, _, .nil, _ => .nil
  | _, _, .cons h t, n => .cons (h.write (n _ (by simp)) hc) (ShsAt.write hc t fun a m => n a (by simp [m]))
theorem SsAt.write {H : Hp} {p c : Addr} {o : HO} {xs : List V} {as : List Addr} {S : List (List Pc)} (h : SsAt H p as S) (hc : H c = some (.lst xs)) (n1 : p ≠ c) (n2 : ∀ a ∈ as, a ≠ c) : SsAt (upd H c o) p as S :=
  ⟨by rw [upd_ne n1]; exact h.1, ShsAt.write hc h.2 n2⟩
noncomputable def pcD (r : Pc) : PyData := .tuple [.int r.1, .int r.2]
noncomputable def shD (ps : List Pc) : PyData := .list (ps.map pcD)
noncomputable def ssD (S : List (List Pc)) : PyData := .list (S.map shD)
theorem pc_dat {K : PySem.W.Frag} {H : Hp} {v : V} {r : Pc} (h : PcAt H v r) : DatR K H (pcD r) v := by
  obtain ⟨p, rfl, e⟩ := h
  exact ⟨p, _, rfl, SqT.of e, _, _, rfl, rfl, _, _, rfl, rfl, rfl⟩
theorem pcs_dat {K : PySem.W.Frag} {H : Hp} : ∀ {vs : List V} {rs : List Pc}, PcsAt H vs rs → DatA K H (rs.map pcD) vs
  | _, _, .nil => rfl
  | _, _, .cons h t => ⟨_, _, rfl, pc_dat h, pcs_dat t⟩
theorem sh_dat {K : PySem.W.Frag} {H : Hp} {a : Addr} {ps : List Pc} (h : ShAt H a ps) : DatR K H (shD ps) (.ref a) := let ⟨xs, e, q⟩ := h; ⟨a, xs, rfl, SqL.of e, pcs_dat q⟩
theorem shs_dat {K : PySem.W.Frag} {H : Hp} : ∀ {as : List Addr} {S : List (List Pc)}, ShsAt H as S → DatA K H (S.map shD) (as.map V.ref)
  | _, _, .nil => rfl
  | _, _, .cons h t => ⟨_, _, rfl, sh_dat h, shs_dat t⟩
theorem ss_dat {K : PySem.W.Frag} {H : Hp} {p : Addr} {as : List Addr} {S : List (List Pc)} (h : SsAt H p as S) : DatR K H (ssD S) (.ref p) := ⟨p, _, rfl, SqL.of h.1, shs_dat h.2⟩
theorem pcs_can : ∀ ps : List Pc, PyData.canLayAll0 (ps.map pcD) = true
  | [] => rfl
  | r :: t => by
    show (PyData.canLay0 (pcD r) && PyData.canLayAll0 (t.map pcD)) = true
    rw [pcs_can t, Bool.and_true]; rfl
theorem shD_can (ps : List Pc) : (shD ps).canLay0 = true := pcs_can ps
theorem shs_can : ∀ S : List (List Pc), PyData.canLayAll0 (S.map shD) = true
  | [] => rfl
  | r :: t => by
    show (PyData.canLay0 (shD r) && PyData.canLayAll0 (t.map shD)) = true
    rw [shs_can t, Bool.and_true]; exact shD_can r
theorem ssD_can (S : List (List Pc)) : (ssD S).canLay0 = true := shs_can S
theorem pcs_depth : ∀ l : List Pc, PyData.depthAll (l.map pcD) ≤ 4
  | [] => by simp [PyData.depthAll]
  | r :: t => by
    have ih := pcs_depth t
    simp only [List.map_cons, PyData.depthAll, pcD, PyData.depth] at ih ⊢
    (first | lia | omega)
theorem shD_depth (ps : List Pc) : (shD ps).depth ≤ 6 := by
  have h := pcs_depth ps
  simp only [shD, PyData.depth]
  (first | lia | omega)
theorem shs_depth : ∀ l : List (List Pc), PyData.depthAll (l.map shD) ≤ 6
  | [] => by simp [PyData.depthAll]
  | r :: t => by
    have ih := shs_depth t
    have h := shD_depth r
    simp only [List.map_cons, PyData.depthAll] at ih ⊢
    (first | lia | omega)
theorem eqv_pc (r q : Pc) : PyData.eqv (pcD r) (pcD q) = decide (r = q) := by
  obtain ⟨g, l⟩ := r
  obtain ⟨g', l'⟩ := q
  simp only [pcD, PyData.eqv, PyData.eqvAll, Bool.and_true]
  by_cases h1 : g = g' <;> by_cases h2 : l = l' <;> simp [h1, h2]
theorem eqvAll_map {α : Type} [DecidableEq α] {d : α → PyData} (hd : ∀ a b, PyData.eqv (d a) (d b) = decide (a = b)) : ∀ (a b : List α), PyData.eqvAll (a.map d) (b.map d) = decide (a = b) := by
  intro a b
  induction a generalizing b with
  | nil => cases b <;> simp [PyData.eqvAll]
  | cons r t ih =>
    cases b with
    | nil => simp [PyData.eqvAll]
    | cons q u =>
      simp only [List.map_cons, PyData.eqvAll, ih u, hd r q]
      by_cases h1 : r = q <;> by_cases h2 : t = u <;> simp [h1, h2]
theorem eqv_sh (a b : List Pc) : PyData.eqv (shD a) (shD b) = decide (a = b) := eqvAll_map eqv_pc a b
theorem eqv_ss (a b : List (List Pc)) : PyData.eqv (ssD a) (ssD b) = decide (a = b) := eqvAll_map eqv_sh a b
end L2

set_option linter.all false
namespace Bk
end Bk

set_option linter.all false
namespace L2
end L2

set_option linter.all false
namespace Bk
theorem put_good {bs : List Rw} {r : Rw} (h : 0 ≤ r.2) (a : Alt bs) (p : ∀ x ∈ bs, 0 < x.2) : Alt (put bs r) ∧ ∀ x ∈ put bs r, 0 < x.2 := by
  rcases snoc_cases bs with rfl | ⟨i, b, rfl⟩
  · rw [put_nil]
    split
    · exact ⟨True.intro, by simpa⟩
    · exact ⟨True.intro, by simp⟩
  · rw [put_snoc]
    split
    · rename_i e
      have g : (i ++ [b])[i.length]? = some b := by simp
      have a2 := alt_set (b.2 + r.2) (i ++ [b]) i.length b g a
      have e2 : (i ++ [b]).set i.length (b.1, b.2 + r.2) = i ++ [(r.1, b.2 + r.2)] := by simp [List.set_append, e]
      rw [e2] at a2
      have pb := p b (by simp)
      refine ⟨a2, fun x hx => ?_⟩
      rcases List.mem_append.mp hx with y | y
      · exact p x (by simp [y])
      · rw [List.mem_singleton.mp y]; show 0 < b.2 + r.2; (first | lia | omega)
    · rename_i e
      split
      · rename_i l
        refine ⟨alt_snoc a fun c hc => ?_, fun x hx => ?_⟩
        · have : b = c := by simpa using hc
          rw [← this]; exact e
        · rcases List.mem_append.mp hx with y | y
          · exact p x y
          · rw [List.mem_singleton.mp y]; exact l
      · exact ⟨a, p⟩
theorem fold_good : ∀ (rs acc : List Rw), (∀ r ∈ rs, 0 ≤ r.2) → Alt acc → (∀ x ∈ acc, 0 < x.2) → Alt (rs.foldl put acc) ∧ ∀ x ∈ rs.foldl put acc, 0 < x.2
  | [], acc, _, a, p => ⟨a, p⟩
  | r :: t, acc, h, a, p => by
    obtain ⟨a1, p1⟩ := put_good (h r (by simp)) a p
    exact fold_good t (put acc r) (fun x hx => h x (by simp [hx])) a1 p1
theorem tidy_good (rs : List Rw) (h : ∀ r ∈ rs, 0 ≤ r.2) : Alt (tidy rs) ∧ ∀ x ∈ tidy rs, 0 < x.2 := fold_good rs [] h True.intro (by simp)
end Bk
namespace L2
open Bk
variable {rs : List Rw}
end L2

set_option linter.all false
namespace Bk
noncomputable def sbs {α β : Type} : List (α × Int) → List (β × Int) → List (α × β × Int)
  | [], _ => []
  | _ :: _, [] => []
  | (a, l) :: r, (b, m) :: s =>
    (a, b, min l m) :: (if m < l then sbs ((a, l - m) :: r) s else if l < m then sbs r ((b, m - l) :: s) else sbs r s)
termination_by x y => x.length + y.length
theorem sbs_nil {α β : Type} (y : List (β × Int)) : sbs ([] : List (α × Int)) y = [] := by unfold sbs; rfl
theorem sbs_cons {α β : Type} (a : α) (l : Int) (r : List (α × Int)) (b : β) (m : Int) (s : List (β × Int)) : sbs ((a, l) :: r) ((b, m) :: s) =
    (a, b, min l m) :: (if m < l then sbs ((a, l - m) :: r) s else if l < m then sbs r ((b, m - l) :: s) else sbs r s) := by
  rw [sbs]
theorem sbs_map {α β γ δ : Type} (f : α → γ) (g : β → δ) : ∀ (n : Nat) (x : List (α × Int)) (y : List (β × Int)), x.length + y.length ≤ n → sbs (x.map fun p => (f p.1, p.2)) (y.map fun p => (g p.1, p.2)) = (sbs x y).map fun p => (f p.1, g p.2.1, p.2.2)
  | _, [], y, _ => by simp [sbs_nil]
  | _, p :: x, [], _ => by simp [sbs]
  | 0, p :: x, q :: y, h => by simp at h
  | n + 1, (a, l) :: x, (b, m) :: y, h => by
    simp only [List.length_cons] at h
    simp only [List.map_cons]
    rw [sbs_cons, sbs_cons]
    simp only [List.map_cons]
    congr 1
    have i1 := sbs_map f g n ((a, l - m) :: x) y (by simp only [List.length_cons]; (first | lia | omega))
    have i2 := sbs_map f g n x ((b, m - l) :: y) (by simp only [List.length_cons]; (first | lia | omega))
    have i3 := sbs_map f g n x y (by (first | lia | omega))
    simp only [List.map_cons] at i1 i2
    split
    · exact i1
    · split
      · exact i2
      · exact i3
noncomputable def ntot {α : Type} : List (α × Int) → Int
  | [] => 0
  | p :: t => p.2 + ntot t
theorem ntot_tot : ∀ rs : List Rw, ntot rs = tot rs
  | [] => rfl
  | r :: t => by simp only [ntot, tot, ntot_tot t]
theorem ntot_pos {α : Type} : ∀ rs : List (α × Int), (∀ r ∈ rs, 0 < r.2) → 0 ≤ ntot rs
  | [], _ => by simp [ntot]
  | r :: t, h => by
    have := ntot_pos t (fun y hy => h y (by simp [hy]))
    have := h r (by simp)
    simp only [ntot]; (first | lia | omega)
theorem cum_put (g : Bool) (x : Int) (bs : List Rw) (r : Rw) (h : 0 ≤ r.2) (hb : ∀ q ∈ bs, 0 ≤ q.2) : cum g x 0 (put bs r) = cum g x 0 (bs ++ [r]) := by
  rcases snoc_cases bs with rfl | ⟨i, b, rfl⟩
  · rw [put_nil]
    split
    · rfl
    · rename_i z
      have e : r.2 = 0 := by (first | lia | omega)
      simp only [List.nil_append, cum, e]
      split <;> (first | lia | omega)
  · rw [put_snoc]
    have hb0 := hb b (by simp)
    split
    · rename_i e
      rw [cum_append, cum_append, cum_append]
      simp only [cum, tot_append, tot]
      rw [e]
      have ca := clip_add (y := x - (0 + tot i)) hb0 h
      rw [show x - (0 + tot i) - b.2 = x - (0 + (tot i + (b.2 + 0))) by (first | lia | omega)] at ca
      rw [ca]
      generalize max (min b.2 (x - (0 + tot i))) 0 = u, max (min r.2 (x - (0 + (tot i + (b.2 + 0))))) 0 = v
      split <;> (first | lia | omega)
    · split
      · rfl
      · rename_i z
        have e : r.2 = 0 := by (first | lia | omega)
        rw [cum_append g x (i ++ [b]) [r]]
        simp only [cum, e]
        split <;> (first | lia | omega)
theorem cum_fold (g : Bool) (x : Int) : ∀ (rs acc : List Rw), (∀ r ∈ rs, 0 ≤ r.2) → Alt acc → (∀ r ∈ acc, 0 < r.2) → cum g x 0 (rs.foldl put acc) = cum g x 0 (acc ++ rs)
  | [], acc, _, _, _ => by simp
  | r :: t, acc, h, al, ha => by
    have hr := h r (by simp)
    obtain ⟨a1, p1⟩ := put_good hr al ha
    have ih := cum_fold g x t (put acc r) (fun q hq => h q (by simp [hq])) a1 p1
    rw [List.foldl_cons, ih, cum_append, cum_put g x acc r hr (fun q hq => Int.le_of_lt (ha q hq))]
    have e : tot (put acc r) = tot (acc ++ [r]) := by
      rw [tot_sm, tot_sm, sm_put true acc r hr, sm_put false acc r hr, sm_append, sm_append]
      simp only [sm]
      (first | lia | omega)
    rw [e, ← cum_append]
    simp
theorem cum_tidy (g : Bool) (x : Int) (rs : List Rw) (h : ∀ r ∈ rs, 0 ≤ r.2) : cum g x 0 (tidy rs) = cum g x 0 rs := by
  have := cum_fold g x rs [] h True.intro (by simp)
  simpa [tidy] using this
end Bk
namespace L2
open Bk
variable {rs : List Rw}
end L2

set_option Elab.async false
set_option linter.all false
set_option maxRecDepth 100000
namespace L2
open PySem PySem.Spec PyProof.Rows
theorem tps_lst {H : Hp} {c : Addr} {xs : List V} {o : HO} (h : H c = some (.lst xs)) : Tps H (upd H c o) := fun b zs e => by
  rw [upd_ne (fun z => by rw [z, h] at e; cases e)]; exact e
theorem tps_new {H : Hp} {c : Addr} {o : HO} (h : H c = none) : Tps H (upd H c o) := (same_new h).tps
noncomputable def NRAt (H : Hp) (v : V) (r : V × Int) : Prop := ∃ q, v = .ref q ∧ H q = some (.tup [r.1, .int r.2])
noncomputable abbrev NRsAt (H : Hp) : List V → List (V × Int) → Prop := Paired (NRAt H)
theorem NRAt.mono {H H' : Hp} {v : V} {r : V × Int} (h : NRAt H v r) (t : Tps H H') : NRAt H' v r := let ⟨p, e, q⟩ := h; ⟨p, e, t p _ q⟩
theorem NRsAt.mono {H H' : Hp} {vs : List V} {rs : List (V × Int)} (h : NRsAt H vs rs) (t : Tps H H') : NRsAt H' vs rs := Paired.mapP h fun _ _ q => q.mono t
noncomputable def TrAt (H : Hp) (v : V) (r : V × V × Int) : Prop := ∃ q, v = .ref q ∧ H q = some (.tup [r.1, r.2.1, .int r.2.2])
noncomputable abbrev TrsAt (H : Hp) : List V → List (V × V × Int) → Prop := Paired (TrAt H)
theorem TrAt.mono {H H' : Hp} {v : V} {r : V × V × Int} (h : TrAt H v r) (t : Tps H H') : TrAt H' v r := let ⟨p, e, q⟩ := h; ⟨p, e, t p _ q⟩
theorem TrsAt.mono {H H' : Hp} {vs : List V} {rs : List (V × V × Int)} (h : TrsAt H vs rs) (t : Tps H H') : TrsAt H' vs rs := Paired.mapP h fun _ _ q => q.mono t
noncomputable def nr (r : Bk.Rw) : V × Int := (.str (gs r.1), r.2)
theorem rows_nr {H : Hp} : ∀ {vs : List V} {rs : List Bk.Rw}, RowsAt H vs rs → NRsAt H vs (rs.map nr)
  | _, _, .nil => .nil
  | _, _, .cons h t => .cons h (rows_nr t)
theorem pop_rev {α : Type} (v : α) (l : List α) : (v :: l).reverse[(v :: l).reverse.length - 1]? = some v ∧ (v :: l).reverse.dropLast = l.reverse := by
  rw [List.reverse_cons]
  simp
theorem paired_snoc {α β : Type} {F : α → β → Prop} {l₁ : List α} {l₂ : List β} {a : α} {b : β} (h : Paired F l₁ l₂) (q : F a b) : Paired F (l₁ ++ [a]) (l₂ ++ [b]) := Paired.snoc h q
end L2

set_option Elab.async false
set_option linter.all false
set_option maxRecDepth 100000
namespace Srt
open PySem PySem.W PyProof.Rows
section
variable (k : Nat → Int) (N : Nat)
noncomputable def Asks {α : Type} : KasT α → Prop
  | .ret _ => True
  | .ask i j f => i < N ∧ j < N ∧ Asks (f (decide (k i < k j)))
theorem asks_bind {α β : Type} {f : α → KasT β} : ∀ t : KasT α, Asks k N t → Asks k N (f (go k t)) → Asks k N (t.bind f)
  | .ret a, _, h => h
  | .ask i j g, h, h2 => ⟨h.1, h.2.1, asks_bind (g (decide (k i < k j))) h.2.2 h2⟩
theorem wp_in {α : Type} {cmp : Nat → Nat → (Bool → Shared → Prop) → Shared → Prop} {Q : α → Shared → Prop} {s : Shared} (hc : ∀ i j (C : Bool → Shared → Prop), i < N → j < N → C (decide (k i < k j)) s → cmp i j C s) : ∀ t : KasT α, Asks k N t → Q (go k t) s → t.kasWp cmp Q s
  | .ret a, _, h => h
  | .ask i j g, a, h => hc i j _ a.1 a.2.1 (wp_in hc (g (decide (k i < k j))) a.2.2 h)
noncomputable def Sm (p : Array Nat) : Prop := ∀ i, p.getD i 0 < N
theorem sm_perm {p q : Array Nat} (hN : 0 < N) (h : Sm N p) (hp : q.Perm p) : Sm N q := fun i => by
  rw [Array.getD_eq_getD_getElem?]
  by_cases hi : i < q.size
  · rw [Array.getElem?_eq_getElem hi]
    have hm : q[i] ∈ p := hp.mem_iff.mp (Array.getElem_mem hi)
    obtain ⟨j, hj, e⟩ := Array.getElem_of_mem hm
    have := h j
    rw [Array.getD_eq_getD_getElem?, Array.getElem?_eq_getElem hj, e] at this
    exact this
  · rw [Array.getElem?_eq_none (by (first | lia | omega))]; exact hN
theorem a_asc {p : Array Nat} (h : Sm N p) : ∀ f n, Asks k N (kas_asc p f n)
  | 0, n => True.intro
  | f + 1, n => ⟨h _, h _, by dsimp only; split; exact True.intro; exact a_asc h f (n + 1)⟩
theorem a_desc (hN : 0 < N) : ∀ f (p : Array Nat) n q, Sm N p → Asks k N (kas_desc f p n q)
  | 0, p, n, q, _ => True.intro
  | f + 1, p, n, q, h => by
    refine ⟨h _, h _, ?_⟩
    dsimp only
    split
    · split
      · exact a_desc hN f _ _ _ (sm_perm N hN h (rev_perm _ _ _))
      · exact a_desc hN f _ _ _ h
    · refine ⟨h _, h _, ?_⟩
      dsimp only
      split
      · exact True.intro
      · exact a_desc hN f _ _ _ h
theorem a_tail3 {p : Array Nat} (hN : 0 < N) (h : Sm N p) (n nrem : Nat) : Asks k N (kas_tail3 n nrem p) := by
  unfold kas_tail3
  exact asks_bind k N _ (a_asc k N (sm_perm N hN h (rev_perm _ _ _)) _ _) True.intro
theorem a_place {p : Array Nat} (h : Sm N p) (m : Nat) : ∀ f l r, Asks k N (kas_place p m f l r)
  | 0, l, r => True.intro
  | f + 1, l, r => by
    unfold kas_place
    split
    · exact True.intro
    · refine ⟨h _, h _, ?_⟩
      dsimp only
      split
      · exact a_place h m f _ _
      · exact a_place h m f _ _
theorem a_bin (hN : 0 < N) : ∀ f (p : Array Nat) m, Sm N p → Asks k N (kas_bin f p m)
  | 0, p, m, _ => True.intro
  | f + 1, p, m, h => by
    unfold kas_bin
    exact asks_bind k N _ (a_place k N h m m 0 m) (a_bin hN f _ _ (sm_perm N hN h (bubble_perm _ _ _)))
theorem a_descPart {p : Array Nat} {n nrem : Nat} (hN : 0 < N) (hs : Sm N p) (h1 : 1 ≤ n) (hn : n + 1 ≤ nrem) (hz : nrem ≤ p.size) (h : Dn k p (n + 1)) : Asks k N (kas_descPart n nrem p) := by
  unfold kas_descPart
  have d := desc k (nrem - (n + 1)) p (n + 1) 0 (by (first | lia | omega)) (by (first | lia | omega)) (by (first | lia | omega)) h (fun i hi hin => by rw [show i = n + 1 - 1 by (first | lia | omega)])
  refine asks_bind k N _ (a_desc k N hN _ _ _ _ hs) ?_
  have s1 := sm_perm N hN hs d.1
  split
  · exact a_tail3 k N hN (sm_perm N hN s1 (rev_perm _ _ _)) _ _
  · exact a_tail3 k N hN s1 _ _
theorem a_count {p : Array Nat} {nrem : Nat} (hN : 0 < N) (hs : Sm N p) (h1 : 1 ≤ nrem) (hz : nrem ≤ p.size) : Asks k N (kas_count nrem p) := by
  unfold kas_count
  have a := asc k p (nrem - 1) 1 (Nat.le_refl _) (fun i h1 h2 => by (first | lia | omega))
  refine asks_bind k N _ (a_asc k N hs _ _) ?_
  generalize go k (kas_asc p (nrem - 1) 1) = n at a
  obtain ⟨a1, a2, a3, a4⟩ := a
  split
  · exact True.intro
  · rename_i h
    have ne : n ≠ nrem := by simpa using h
    have lt := a4 (by (first | lia | omega))
    split
    · rename_i hn1
      refine ⟨hs _, hs _, ?_⟩
      dsimp only
      by_cases z : k (p.getD 0 0) < k (p.getD (n - 1) 0)
      · rw [decide_eq_true z, if_pos rfl]; exact True.intro
      · rw [decide_eq_false z]
        simp only [Bool.false_eq_true, if_false]
        have z' : kk k p (n - 1) ≤ kk k p 0 := Int.not_lt.mp z
        have eqs : ∀ i, i < n → kk k p i = kk k p 0 := fun i hi => by
          have l1 := up_le k a3 i 0 (by (first | lia | omega))
          have l2 := up_le k a3 (n - 1 - i) i (by (first | lia | omega))
          rw [Nat.zero_add] at l1
          rw [show i + (n - 1 - i) = n - 1 by (first | lia | omega)] at l2
          (first | lia | omega)
        have er : ∀ m, kk k (kas_rev p 0 n) m = kk k p m := fun m => by
          rw [kk_rev k (by (first | lia | omega))]
          split
          · rw [eqs _ (by (first | lia | omega)), eqs m (by (first | lia | omega))]
          · rfl
        exact a_descPart k N hN (sm_perm N hN hs (rev_perm _ _ _)) (by (first | lia | omega)) (by (first | lia | omega)) (by rw [rev_size]; (first | lia | omega)) (fun i h1 h2 => by
          rw [er, er]
          by_cases y : i = n
          · subst y; exact Int.le_of_lt lt
          · rw [eqs i (by (first | lia | omega)), eqs (i - 1) (by (first | lia | omega))]; exact Int.le_refl _)
    · have n1 : n = 1 := by (first | lia | omega)
      subst n1
      exact a_descPart k N hN hs (by (first | lia | omega)) (by (first | lia | omega)) hz (fun i h1 h2 => by
        have : i = 1 := by (first | lia | omega)
        subst this
        exact Int.le_of_lt lt)
theorem a_sort {n : Nat} (h1 : 1 ≤ n) : Asks k n (kas_sort n) := by
  have s0 : Sm n (List.range n).toArray := fun i => by
    rw [Array.getD_eq_getD_getElem?]
    by_cases hi : i < n
    · simp [hi]
    · simp [hi]; (first | lia | omega)
  unfold kas_sort
  have c := count k (p := (List.range n).toArray) (nrem := n) h1 (by simp)
  refine asks_bind k n _ (a_count k n (by (first | lia | omega)) s0 h1 (by simp)) ?_
  split
  · exact a_bin k n (by (first | lia | omega)) _ _ _ (sm_perm n (by (first | lia | omega)) s0 c.perm)
  · exact True.intro
end
noncomputable def out {α : Type} (k : Nat → Int) (d : α) (vs : List α) : List α := if vs.length < 2 then vs else (go k (kas_sort vs.length)).toList.map fun i => vs.getD i d
section
variable {prog : Program} {w : World} {A : Around} {E : Value → Shared → Prop} {s : Shared}
theorem sort_gen {a : Addr} {vs : List Value} {n : Nat} {P : PySem.Fin → Shared → Prop} {κ : SortKind} {k : Nat → Int} (ho : s.heap.get? a = some (seqObj "list" vs.toArray n)) (h64 : vs.length < 64)
    (hk : ∀ h', (∀ b o, b ≠ a → s.heap.get? b = some o → h'.get? b = some o) → 2 ≤ vs.length → ∀ (Q : SortKind → Shared → Prop), Q κ { s with heap := h' } → wpAny (model prog w) A (keyKind' vs.toArray) Q (fun _ _ => False) { s with heap := h' })
    (hc : ∀ h', (∀ b o, b ≠ a → s.heap.get? b = some o → h'.get? b = some o) → ∀ i j (C : Bool → Shared → Prop), i < vs.length → j < vs.length → C (decide (k i < k j)) { s with heap := h' } → kas_ask prog w A κ vs i j C { s with heap := h' })
    (h : P (.done (.ret .none)) { s with heap := sortedHeap s.heap a vs (out k Value.none vs).toArray }) : wpAny (model prog w) A (Builtin.«list.sort» ⟨[.ref a], []⟩) P E s := by
  rw [list_sort_plain]
  have ha : a < s.heap.objs.size := Heap.lt_size ho
  refine wpAny_bind (listItems_at ho rfl ?_)
  refine wpAny_bind (listUpdate_at ho rfl ?_)
  obtain ⟨e1, ho1⟩ : ∃ e1, (s.heap.update a (Obj.mapSeq fun _ => #[])).get? a = some (seqObj "list" #[] e1) := ⟨_, get?_update_seq ho (fun _ => #[])⟩
  refine wpAny_bind (seqEpoch_at ho1 rfl ?_)
  refine wpAny_bind (wpAny_newTuple ?_)
  refine wpAny_bind (wpAny_newList ?_)
  refine wpAny_holding ?_
  have ho6 : (((s.heap.update a (Obj.mapSeq fun _ => #[])).push (seqObj "tuple" vs.toArray 0)).push (seqObj "list" #[] 0)).get? a = some (seqObj "list" #[] e1) := by
    rw [Heap.get?_push_ne _ _ _ (by rw [size_push', Heap.size_update]; exact Nat.ne_of_lt (Nat.lt_succ_of_lt ha)), Heap.get?_push_ne _ _ _ (by rw [Heap.size_update]; exact Nat.ne_of_lt ha)]
    exact ho1
  have keep : ∀ b o, b ≠ a → s.heap.get? b = some o → (((s.heap.update a (Obj.mapSeq fun _ => #[])).push (seqObj "tuple" vs.toArray 0)).push (seqObj "list" #[] 0)).get? b = some o := fun b o hb e =>
    Heap.get?_push_of_some _ (Heap.get?_push_of_some _ ((Heap.get?_update_other _ _ (Ne.symm hb)).trans e))
  show wpAny (model prog w) A _ P E { s with heap := ((s.heap.update a (Obj.mapSeq fun _ => #[])).push (seqObj "tuple" vs.toArray 0)).push (seqObj "list" #[] 0) }
  dsimp only
  have hsz : vs.toArray.size = vs.length := by simp
  unfold out at h
  by_cases h2 : vs.toArray.size < 2
  · rw [if_pos h2, if_pos h2]
    rw [if_pos (by (first | lia | omega))] at h
    refine wpAny_bind (wpAny_pure ?_)
    rw [StateT.run_pure]
    refine wpAny_bind (wpAny_pure ?_)
    dsimp only
    refine wpAny_bind (seqEpoch_at ho6 rfl ?_)
    refine wpAny_bind (listUpdate_at ho6 rfl ?_ (hsz2 := by rw [Array.size_map]; show (pairsOf vs).size ≤ _; rw [pairsOf_size, sizeLine_eq]; (first | lia | omega)))
    simp only [bne_self_eq_false, Bool.false_eq_true, if_false]
    refine wpAny_pure ?_
    have e : (arrOf (SortSt.mk' general' (vs.toArray.zip vs.toArray) #[] 7 none)).map (·.2) = vs.toArray := by
      show (vs.toArray.zip vs.toArray).map (·.2) = vs.toArray
      apply Array.toList_inj.mp
      rw [Array.toList_map, Array.toList_zip]
      exact List.map_snd_zip (Nat.le_refl _)
    rw [e]
    exact h
  · rw [if_neg h2, if_neg h2]
    rw [if_neg (by (first | lia | omega))] at h
    refine wpAny_bind (hk _ keep (by (first | lia | omega)) _ ?_ |> fun z => wpAny_mono z (fun _ _ y => y) fun _ _ x => x.elim)
    have tr : (kas_sort vs.length).kasWp (kas_ask prog w A κ vs) (fun p s' => p = go k (kas_sort vs.length) ∧ s' = { s with heap := ((s.heap.update a (Obj.mapSeq fun _ => #[])).push (seqObj "tuple" vs.toArray 0)).push (seqObj "list" #[] 0) })
        { s with heap := ((s.heap.update a (Obj.mapSeq fun _ => #[])).push (seqObj "tuple" vs.toArray 0)).push (seqObj "list" #[] 0) } :=
      wp_in k vs.length (hc _ keep) _ (a_sort k (by (first | lia | omega))) ⟨rfl, rfl⟩
    refine wpAny_bind (wpAny_mono (kat_run (Q := fun st' s' => ∃ p : Array Nat, p.size = vs.length ∧ arrOf st' = p.map (kas_item (vs.toArray.zip vs.toArray)) ∧ failedOf st' = none ∧ p = go k (kas_sort vs.length) ∧ s' = { s with heap := ((s.heap.update a (Obj.mapSeq fun _ => #[])).push (seqObj "tuple" vs.toArray 0)).push (seqObj "list" #[] 0) })
      rfl (by (first | lia | omega)) h64 (fun p' st' s' a1 a2 a3 a4 => ⟨p', a1, a2, a3, a4.1, a4.2⟩) tr) ?_ fun _ _ e => e)
    rintro ⟨⟨⟩, st'⟩ s' ⟨p, hp, har, hf, hpe, rfl⟩
    dsimp only
    have hout := kat_snds rfl har
    rw [hout]
    refine wpAny_bind (seqEpoch_at ho6 rfl ?_)
    refine wpAny_bind (listUpdate_at ho6 rfl ?_ (hsz2 := by rw [List.size_toArray, List.length_map, Array.length_toList, hp, sizeLine_eq]; (first | lia | omega)))
    rw [hf]
    simp only [bne_self_eq_false, Bool.false_eq_true, if_false]
    refine wpAny_pure ?_
    rw [hpe]
    exact h
theorem sorted_gen {l : Addr} {vs : List Value} {Q : Value → Shared → Prop} {κ : SortKind} {k : Nat → Int} (hl : s.heap.IsList l vs.toArray) (h64 : vs.length < 64)
    (hk : ∀ h', (∀ b o, s.heap.get? b = some o → h'.get? b = some o) → 2 ≤ vs.length → ∀ (A' : Around) (Q : SortKind → Shared → Prop), Q κ { s with heap := h' } → wpAny (model prog w) A' (keyKind' vs.toArray) Q (fun _ _ => False) { s with heap := h' })
    (hc : ∀ h', (∀ b o, s.heap.get? b = some o → h'.get? b = some o) → ∀ (A' : Around) i j (C : Bool → Shared → Prop), i < vs.length → j < vs.length → C (decide (k i < k j)) { s with heap := h' } → kas_ask prog w A' κ vs i j C { s with heap := h' })
    (h : Q (.ref (s.heap.objs.size + 1)) { s with heap := sortedAll s.heap vs (out k Value.none vs).toArray }) : wpAny (model prog w) A (call (.builtin "sorted") [.ref l]) Q E s := by
  refine Calls.call_function_entry kind_sorted plain_sorted entry_sorted (args_sorted1 _) ?_
  unfold Builtin.«sorted»
  refine wpAny_bind (m := checkCount "sorted" 1 1 _) (wpAny_pure ?_)
  refine wpAny_bind (collect_list hl ?_)
  refine wpAny_bind (wpAny_newList ?_)
  have hsz : ((s.heap.push (seqObj "list" #[] 0)).update s.heap.objs.size (Obj.mapSeq (· ++ vs.toArray))).objs.size = s.heap.objs.size + 1 := by
    rw [Heap.size_update, size_push']
  have hoL : (((s.heap.push (seqObj "list" #[] 0)).update s.heap.objs.size (Obj.mapSeq (· ++ vs.toArray))).push (seqObj "list" vs.toArray 0)).get? (s.heap.objs.size + 1) = some (seqObj "list" vs.toArray 0) := by
    rw [← hsz]; exact Heap.get?_push_size _ rfl
  have keep : ∀ b o, s.heap.get? b = some o → (((s.heap.push (seqObj "list" #[] 0)).update s.heap.objs.size (Obj.mapSeq (· ++ vs.toArray))).push (seqObj "list" vs.toArray 0)).get? b = some o := fun b o q => by
    have hlt : b < s.heap.objs.size := Heap.lt_size q
    rw [Heap.get?_push_ne _ _ _ (by rw [hsz]; exact Nat.ne_of_lt (Nat.lt_succ_of_lt hlt)), Heap.get?_update_ne _ _ _ _ (Nat.ne_of_lt hlt), Heap.get?_push_ne _ _ _ (Nat.ne_of_lt hlt)]
    exact q
  have nb : ∀ b o, s.heap.get? b = some o → b ≠ s.heap.objs.size + 1 := fun b o e => Nat.ne_of_lt (Nat.lt_succ_of_lt (Heap.lt_size e))
  show wpAny _ _ _ _ _ { s with heap := ((s.heap.push (seqObj "list" #[] 0)).update s.heap.objs.size (Obj.mapSeq (· ++ vs.toArray))).push (seqObj "list" vs.toArray 0) }
  rw [hsz]
  refine wpAny_bind (wpAny_holding (wpAny_call_entry slot_list_sort ⟨_, hoL, rfl⟩ entry_list_sort (sort_gen (κ := κ) (k := k) hoL h64 (fun h' hk' h2 Q' q => hk h' (fun b o e => hk' b o (nb b o e) (keep b o e)) h2 _ Q' q) (fun h' hk' i j C hi hj q => hc h' (fun b o e => hk' b o (nb b o e) (keep b o e)) _ i j C hi hj q) ⟨_, rfl, ?_⟩) (args_list_sort _)))
  exact wpAny_pure ⟨_, rfl, h⟩
end
end Srt

set_option Elab.async false
set_option linter.all false
set_option maxRecDepth 100000
namespace Srt
open PySem
noncomputable def lx : List Int → List Int → Bool
  | a :: s, b :: t => decide (a < b) || (decide (a = b) && lx s t)
  | _, _ => false
theorem lx_irr : ∀ t, lx t t = false
  | [] => rfl
  | a :: t => by simp [lx, lx_irr t]
theorem lx_trans : ∀ {s t u : List Int}, lx s t = true → lx t u = true → lx s u = true
  | a :: s, b :: t, c :: u, h1, h2 => by
    simp only [lx, Bool.or_eq_true, Bool.and_eq_true, decide_eq_true_eq] at *
    rcases h1 with h1 | ⟨h1, h1'⟩
    · rcases h2 with h2 | ⟨h2, _⟩
      · left; (first | lia | omega)
      · left; (first | lia | omega)
    · rcases h2 with h2 | ⟨h2, h2'⟩
      · left; (first | lia | omega)
      · right; exact ⟨by (first | lia | omega), lx_trans h1' h2'⟩
  | [], _, _, h1, _ => by simp [lx] at h1
  | _ :: _, [], _, h1, _ => by simp [lx] at h1
  | _ :: _, _ :: _, [], _, h2 => by simp [lx] at h2
theorem lx_total : ∀ {s t : List Int}, s.length = t.length → lx s t = false → lx t s = false → s = t
  | [], [], _, _, _ => rfl
  | [], _ :: _, h, _, _ => by simp at h
  | _ :: _, [], h, _, _ => by simp at h
  | a :: s, b :: t, h, h1, h2 => by
    simp only [lx, Bool.or_eq_false_iff, Bool.and_eq_false_iff, decide_eq_false_iff_not] at h1 h2
    have e : a = b := by (first | lia | omega)
    subst e
    have := lx_total (s := s) (t := t) (by simpa using h) (by rcases h1.2 with z | z; exact absurd rfl z; exact z) (by rcases h2.2 with z | z; exact absurd rfl z; exact z)
    rw [this]
theorem cnt_le {α : Type} {p q : α → Bool} : ∀ {l : List α}, (∀ x ∈ l, p x = true → q x = true) → l.countP p ≤ l.countP q
  | [], _ => Nat.le_refl _
  | x :: l, h => by
    have ih := cnt_le (l := l) fun y hy => h y (List.mem_cons_of_mem _ hy)
    rw [List.countP_cons, List.countP_cons]
    have hx := h x (List.mem_cons_self ..)
    cases e : p x with
    | false => simp; (first | lia | omega)
    | true => rw [hx e]; simp; (first | lia | omega)
theorem cnt_lt {α : Type} {p q : α → Bool} : ∀ {l : List α}, (∀ x ∈ l, p x = true → q x = true) → (∃ x ∈ l, p x = false ∧ q x = true) → l.countP p < l.countP q
  | [], _, h => by obtain ⟨x, hx, _⟩ := h; simp at hx
  | x :: l, h, he => by
    have hl : ∀ y ∈ l, p y = true → q y = true := fun y hy => h y (List.mem_cons_of_mem _ hy)
    have ih := cnt_le hl
    rw [List.countP_cons, List.countP_cons]
    obtain ⟨y, hy, h1, h2⟩ := he
    rcases List.mem_cons.mp hy with e | hy
    · subst e; rw [h1, h2]; simp; (first | lia | omega)
    · have ih2 := cnt_lt hl ⟨y, hy, h1, h2⟩
      have hx := h x (List.mem_cons_self ..)
      cases e : p x with
      | false => simp; (first | lia | omega)
      | true => rw [hx e]; simp; (first | lia | omega)
noncomputable def rank (ts : List (List Int)) (i : Nat) : Int := ((ts.countP fun x => lx x (ts.getD i []) : Nat) : Int)
theorem rank_lt {ts : List (List Int)} {m i j : Nat} (hm : ∀ t ∈ ts, t.length = m) (hi : i < ts.length) (hj : j < ts.length) : decide (rank ts i < rank ts j) = lx (ts.getD i []) (ts.getD j []) := by
  have mi : ts.getD i [] ∈ ts := by simp [List.getD_eq_getElem?_getD, hi]
  have mj : ts.getD j [] ∈ ts := by simp [List.getD_eq_getElem?_getD, hj]
  unfold rank
  cases e : lx (ts.getD i []) (ts.getD j []) with
  | true =>
    refine decide_eq_true (Int.ofNat_lt.mpr (cnt_lt (fun x _ hx => lx_trans hx e) ⟨_, mi, lx_irr _, e⟩))
  | false =>
    refine decide_eq_false (Int.not_lt.mpr (Int.ofNat_le.mpr (cnt_le fun x _ hx => ?_)))
    cases e2 : lx (ts.getD j []) (ts.getD i []) with
    | true => exact lx_trans hx e2
    | false =>
      have := lx_total (by rw [hm _ mi, hm _ mj]) e e2
      rw [this]; exact hx
theorem getD_mem {α : Type} {l : List α} {i : Nat} (d : α) (h : i < l.length) : l.getD i d ∈ l := by
  rw [List.getD_eq_getElem?_getD, List.getElem?_eq_getElem h]; exact List.getElem_mem h
theorem out_paired {α β : Type} {F : α → β → Prop} {a : List α} {b : List β} {d : α} {e : β} (k : Nat → Int) (h : PySem.Paired F a b) : PySem.Paired F (out k d a) (out k e b) := by
  have hl := PySem.Paired.length h
  unfold out
  rw [hl]
  split
  · exact h
  · rename_i hn
    have pm := (sorts k (n := b.length) (by (first | lia | omega))).1
    have hs : ∀ i ∈ (go k (PySem.W.kas_sort b.length)).toList, i < b.length := fun i hi => by
      have := pm.mem_iff.mp (Array.mem_toList_iff.mp hi)
      simpa using this
    generalize (go k (PySem.W.kas_sort b.length)).toList = is at hs
    clear pm
    induction is with
    | nil => exact .nil
    | cons i r ih =>
      refine .cons ?_ (ih fun j hj => hs j (List.mem_cons_of_mem _ hj))
      have hi := hs i (List.mem_cons_self ..)
      have ha : a[i]? = some a[i] := List.getElem?_eq_getElem (by (first | lia | omega))
      obtain ⟨y, hy1, hy2⟩ := L2.paired_get h ha
      show F (a.getD i d) (b.getD i e)
      rw [List.getD_eq_getElem?_getD, List.getD_eq_getElem?_getD, ha, hy1]
      exact hy2
theorem out_perm {α : Type} (k : Nat → Int) (d : α) (l : List α) : (out k d l).Perm l := by
  unfold out
  split
  · exact List.Perm.refl _
  · rename_i hn
    have pm := (sorts k (n := l.length) (by (first | lia | omega))).1
    have p2 : (go k (PySem.W.kas_sort l.length)).toList.Perm (List.range l.length) := by simpa using Array.perm_iff_toList_perm.mp pm
    refine (p2.map fun i => l.getD i d).trans (List.Perm.of_eq ?_)
    apply List.ext_getElem (by simp)
    intro i h1 h2
    simp [List.getD_eq_getElem?_getD, h2]
theorem out_up {α : Type} {k : Nat → Int} {d : α} {l : List α} {i : Nat} {x y : α} (h1 : (out k d l)[i]? = some x) (h2 : (out k d l)[i + 1]? = some y) : ∃ a b, a < l.length ∧ b < l.length ∧ x = l.getD a d ∧ y = l.getD b d ∧ (k a ≤ k b) := by
  unfold out at h1 h2
  split at h1
  · rename_i hn
    rw [if_pos hn] at h2
    have := (List.getElem?_eq_some_iff.mp h2).1
    (first | lia | omega)
  · rename_i hn
    rw [if_neg hn] at h2
    have so := sorts k (n := l.length) (by (first | lia | omega))
    generalize hp : go k (PySem.W.kas_sort l.length) = p at h1 h2 so
    rw [List.getElem?_map] at h1 h2
    obtain ⟨a, ha, rfl⟩ := Option.map_eq_some_iff.mp h1
    obtain ⟨b, hb, rfl⟩ := Option.map_eq_some_iff.mp h2
    have sz : p.size = l.length := by rw [so.1.size_eq]; simp
    have lb : i + 1 < p.size := by have := (List.getElem?_eq_some_iff.mp hb).1; simpa using this
    have inn : ∀ c ∈ p.toList, c < l.length := fun c hc => by simpa using so.1.mem_iff.mp (Array.mem_toList_iff.mp hc)
    refine ⟨a, b, inn a (List.mem_of_getElem? ha), inn b (List.mem_of_getElem? hb), rfl, rfl, ?_⟩
    have u := so.2 (i + 1) (by (first | lia | omega)) (by (first | lia | omega))
    unfold kk at u
    rw [show i + 1 - 1 = i by (first | lia | omega), Array.getD_eq_getD_getElem?, Array.getD_eq_getD_getElem?] at u
    rw [Array.getElem?_toList] at ha hb
    rw [ha, hb] at u
    exact u
end Srt
namespace L2
open PySem PySem.Spec PyProof.Rows PySem.W
noncomputable def TAt (H : Hp) (v : V) (t : List Int) : Prop := ∃ q, v = .ref q ∧ H q = some (.tup (t.map V.int))
section
variable {prog : Program} {w : World} {A : Around} {s : Shared}
theorem lex_ints {b : Bool} {C : Bool → Shared → Prop} : ∀ (t u : List Int) (us vs : List Value) (i : Nat), Vals (t.map V.int) us → Vals (u.map V.int) vs → t.length = u.length → (i = 0 → b = true) → C (Srt.lx t u) s → KatLex prog w A b false C (us.zip vs) i s
  | [], [], us, vs, i, r1, r2, _, _, h => by cases r1; cases r2; exact h
  | [], _ :: _, _, _, _, _, _, e, _, _ => by simp at e
  | _ :: _, [], _, _, _, _, _, e, _, _ => by simp at e
  | x :: t, y :: u, us, vs, i, r1, r2, e, hb, h => by
    cases r1 with
    | cons a1 r1 =>
      cases r2 with
      | cons a2 r2 =>
        obtain ⟨t1, rfl⟩ := a1
        obtain ⟨t2, rfl⟩ := a2
        refine kat_cons (wpAny_eqBool_int ?_)
        by_cases z : x = y
        · subst z
          rw [show (x == x) = true by simp]
          refine kat_yes (lex_ints t u _ _ (i + 1) r1 r2 (by simpa using e) (fun z => by (first | lia | omega)) ?_)
          have : Srt.lx (x :: t) (x :: u) = Srt.lx t u := by simp [Srt.lx]
          rw [← this]; exact h
        · rw [show (x == y) = false by simpa using z]
          refine kat_no ?_
          have : Srt.lx (x :: t) (y :: u) = decide (x < y) := by simp [Srt.lx, z]
          rw [this] at h
          by_cases y0 : i = 0
          · subst y0
            rw [hb rfl]
            exact oneLt_int h
          · rw [show (b && i == 0) = false by simp [y0]]
            exact kat_one _ _ (lt_int h)
end
section
variable {X : Cx}
noncomputable def rSrtT (K : PySem.W.Frag) : List V → Hp → VK → Prop := fun xs H Q => ∃ l its ts m, xs = [.ref l] ∧ SqL K H l its ∧ Paired (TAt H) its ts ∧ (∀ t ∈ ts, t.length = m) ∧ 1 ≤ m ∧ ts.length < 64 ∧
  ∀ p, H p = none → Q (.ref p) (upd H p (.lst (Srt.out (Srt.rank ts) .non its)))
theorem call_sortedT : CallR X (.builtin "sorted") (rSrtT X.K) := by
  intro pins s σ H xs us Q I r h
  obtain ⟨l, its, ts, m, rfl, hl, hT, hm, m1, h64, q⟩ := h
  obtain ⟨u, rfl, ru⟩ := vals1 r
  cases ru
  obtain ⟨vs, rv, pl, hz⟩ := I.list hl
  have lv := rv.length
  have lt := Paired.length hT
  have tup : ∀ i, i < vs.length → ∃ (a : Addr) (o : Obj) (xs : List Value) (n : Nat), vs.getD i Value.none = .ref a ∧ s.heap.get? a = some o ∧ o.cls = .type "tuple" ∧ o.data = .seq xs.toArray n ∧ Vals ((ts.getD i []).map V.int) xs := fun i hi => by
    have hx : its[i]? = some its[i] := List.getElem?_eq_getElem (by (first | lia | omega))
    obtain ⟨t, ht, ⟨a, ea, ha⟩⟩ := paired_get hT hx
    obtain ⟨u, hu, ru⟩ := rv.get hx
    rw [ea] at ru
    cases ru
    obtain ⟨zs, rz, ⟨o, ho, hc, n, hd⟩, _⟩ := I.tuple (SqT.of ha)
    refine ⟨a, o, zs, n, by rw [List.getD_eq_getElem?_getD, hu]; rfl, ho, hc, hd, ?_⟩
    rw [List.getD_eq_getElem?_getD, ht]; exact rz
  refine Srt.sorted_gen (κ := tuples' true) (k := Srt.rank ts) pl.isList (by (first | lia | omega)) ?_ ?_ ?_
  · intro h' hk h2 A' Q' q'
    have kt : ∀ (us : List Value) (j : Nat), (∀ i v, us[i]? = some v → j + i < vs.length ∧ v = vs.getD (j + i) Value.none) → ∃ fs, KatTups h' us fs ∧ fs.length = us.length ∧ ∀ v ∈ fs, ∃ n t, v = Value.int n t := by
      intro us
      induction us with
      | nil => intro j _; exact ⟨[], .nil, rfl, by simp⟩
      | cons v us ih =>
        intro j h
        obtain ⟨fs, k1, k2, k3⟩ := ih (j + 1) fun i v hv => by
          have := h (i + 1) v (by simpa using hv)
          rw [show j + 1 + i = j + (i + 1) by (first | lia | omega)]; exact this
        obtain ⟨hj, hv⟩ := h 0 v rfl
        obtain ⟨a, o, zs, n, e1, e2, e3, e4, e5⟩ := tup _ hj
        have ht : (ts.getD (j + 0) []).length = m := hm _ (Srt.getD_mem _ (by (first | lia | omega)))
        match hq : ts.getD (j + 0) [], zs, e5, ht with
        | x :: t, _, .cons r0 r1, _ =>
          obtain ⟨tk, rfl⟩ := r0
          refine ⟨Value.int x tk :: fs, ?_, by simp [k2], fun w hw => ?_⟩
          · rw [hv, e1]
            exact .cons (hk _ _ e2) e3 e4 (by simp) k1
          · rcases List.mem_cons.mp hw with y | y
            · rw [y]; exact ⟨_, _, rfl⟩
            · exact k3 w y
        | [], _, _, ht => simp at ht; (first | lia | omega)
    obtain ⟨fs, k1, k2, k3⟩ := kt vs 0 fun i v hv => by
      have hi := (List.getElem?_eq_some_iff.mp hv).1
      exact ⟨by (first | lia | omega), by rw [Nat.zero_add, List.getD_eq_getElem?_getD, hv]; rfl⟩
    refine kat_kind (T := .type "int") k1 (by (first | lia | omega)) (fun v hv => ?_) rfl q'
    obtain ⟨n, t, rfl⟩ := k3 v hv
    exact .now
  · intro h' hk A' i j C hi hj hC
    obtain ⟨a, o, zs, n, e1, e2, e3, e4, e5⟩ := tup i hi
    obtain ⟨b, o', zs', n', e1', e2', e3', e4', e5'⟩ := tup j hj
    unfold kas_ask
    rw [e1, e1']
    have li : (ts.getD i []).length = m := hm _ (Srt.getD_mem _ (by (first | lia | omega)))
    have lj : (ts.getD j []).length = m := hm _ (Srt.getD_mem _ (by (first | lia | omega)))
    have z1 := e5.length
    have z2 := e5'.length
    rw [List.length_map] at z1 z2
    refine kat_lt (s := { s with heap := h' }) (hk _ _ e2) e4 (hk _ _ e2') e4' ?_
    rw [show decide (zs.toArray.size < zs'.toArray.size) = false by simp; (first | lia | omega)]
    refine lex_ints _ _ _ _ 0 e5 e5' (by (first | lia | omega)) (fun _ => rfl) ?_
    rw [Srt.rank_lt hm (by (first | lia | omega)) (by (first | lia | omega))] at hC
    exact hC
  · obtain ⟨e, he⟩ := sortedAll_at s.heap vs (Srt.out (Srt.rank ts) Value.none vs).toArray
    have le : s.heap.objs.size ≤ s.heap.objs.size + 1 := Nat.le_succ _
    have lo : (Srt.out (Srt.rank ts) V.non its).length = its.length := (Srt.out_perm _ _ _).length_eq
    exact ⟨.ref _, _, I.laid (t' := s.toks) (fun b o hb => sortedAll_old hb) le (show ObjOk X.prog X.w _ _ _ (.lst (Srt.out (Srt.rank ts) .non its)) from ⟨by rw [lo]; exact hz, _, e, Srt.out_paired _ rv, he⟩), rfl, q _ (I.hok.fresh le)⟩
end
end L2

set_option linter.all false
namespace St
open PySem
theorem below_go {xs : Array Nat} {j : Nat} (hx : xs.toList.Pairwise (· < ·)) : ∀ (f lo hi : Nat), lo ≤ hi → hi ≤ xs.size → hi - lo ≤ f → (∀ i, i < lo → ∀ y, xs[i]? = some y → y < j) → (∀ i, hi ≤ i → ∀ y, xs[i]? = some y → j ≤ y) →
    (∀ i, i < SetTable.below.go xs j f lo hi → ∀ y, xs[i]? = some y → y < j) ∧ (∀ i, SetTable.below.go xs j f lo hi ≤ i → ∀ y, xs[i]? = some y → j ≤ y) ∧ SetTable.below.go xs j f lo hi ≤ xs.size
  | 0, lo, hi, h1, h2, h3, a, b => by
    have e : lo = hi := by (first | lia | omega)
    subst e
    exact ⟨a, b, h2⟩
  | f + 1, lo, hi, h1, h2, h3, a, b => by
    unfold SetTable.below.go
    by_cases hl : lo < hi
    · rw [if_pos hl]
      have hm : (lo + hi) / 2 < xs.size := by (first | lia | omega)
      have pw : ∀ i k (hi' : i < xs.size) (hk : k < xs.size), i < k → xs[i] < xs[k] := fun i k hi' hk hik => by
        have := List.pairwise_iff_getElem.mp hx i k (by simpa using hi') (by simpa using hk) hik
        simpa using this
      have eg : xs.getD ((lo + hi) / 2) j = xs[(lo + hi) / 2] := by simp [hm]
      simp only
      rw [eg]
      by_cases hc : xs[(lo + hi) / 2] < j
      · rw [if_pos hc]
        refine below_go hx f _ hi (by (first | lia | omega)) h2 (by (first | lia | omega)) (fun i hi' y hy => ?_) b
        obtain ⟨hlt, rfl⟩ := Array.getElem?_eq_some_iff.mp hy
        rcases Nat.lt_or_ge i ((lo + hi) / 2) with q | q
        · have := pw i _ hlt hm q; (first | lia | omega)
        · have e : i = (lo + hi) / 2 := by (first | lia | omega)
          subst e; exact hc
      · rw [if_neg hc]
        refine below_go hx f lo _ (by (first | lia | omega)) (by (first | lia | omega)) (by (first | lia | omega)) a (fun i hi' y hy => ?_)
        obtain ⟨hlt, rfl⟩ := Array.getElem?_eq_some_iff.mp hy
        rcases Nat.lt_or_ge ((lo + hi) / 2) i with q | q
        · have := pw _ i hm hlt q; (first | lia | omega)
        · have e : i = (lo + hi) / 2 := by (first | lia | omega)
          subst e; (first | lia | omega)
    · rw [if_neg hl]
      have e : lo = hi := by (first | lia | omega)
      subst e
      exact ⟨a, b, h2⟩
theorem below_ok {xs : Array Nat} (j : Nat) (hx : xs.toList.Pairwise (· < ·)) : (∀ i, i < SetTable.below xs j → ∀ y, xs[i]? = some y → y < j) ∧ (∀ i, SetTable.below xs j ≤ i → ∀ y, xs[i]? = some y → j ≤ y) ∧ SetTable.below xs j ≤ xs.size := by
  unfold SetTable.below
  exact below_go hx xs.size 0 xs.size (Nat.zero_le _) (Nat.le_refl _) (by (first | lia | omega)) (fun i h => by (first | lia | omega)) (fun i h y hy => by rw [Array.getElem?_eq_none h] at hy; cases hy)
structure Ri (t : SetTable) : Prop where
  up : t.place.toList.Pairwise (· < ·)
  clean : t.dummies = #[]
theorem no_dummy {t : SetTable} (h : t.dummies = #[]) (j : Nat) : SetTable.has t.dummies j = false := by
  rw [h]; unfold SetTable.has; simp
theorem probe_go {t : SetTable} {ha : Nat → Int} {h : Int} (hc : t.dummies = #[]) : ∀ (f : Nat) (p : SetTable.Probe) (j : Nat) (d : Option Nat), p.dummy = none → SetTable.probe.go t ha h f p = some (.empty j d) → d = none ∧ t.place[SetTable.below t.place j]? ≠ some j
  | 0, p, j, d, _, e => by simp [SetTable.probe.go] at e
  | f + 1, p, j, d, hp, e => by
    have ad : (t.advance p).dummy = none := by
      unfold SetTable.advance
      split
      · exact hp
      · exact hp
    unfold SetTable.probe.go at e
    have sl : t.slot p.j = if t.place[SetTable.below t.place p.j]? == some p.j then .live (SetTable.below t.place p.j) else .empty := by
      unfold SetTable.slot
      simp only [no_dummy hc, Bool.false_eq_true, if_false]
    rw [sl] at e
    by_cases z : (t.place[SetTable.below t.place p.j]? == some p.j) = true
    · rw [if_pos z] at e
      simp only at e
      split at e
      · simp at e
      · exact probe_go hc f _ j d ad e
    · rw [if_neg z] at e
      simp only [Option.some.injEq, SetTable.Met.empty.injEq] at e
      obtain ⟨rfl, rfl⟩ := e
      exact ⟨hp, by simpa using z⟩
theorem free_slot {t : SetTable} {h : Int} {j : Nat} {b : Bool} (hc : t.dummies = #[]) (e : t.freeSlot h = some (j, b)) : b = false ∧ t.place[SetTable.below t.place j]? ≠ some j := by
  unfold SetTable.freeSlot at e
  split at e
  · rename_i j' d hp
    obtain ⟨rfl, hn⟩ := probe_go hc _ _ _ _ rfl hp
    simp only [Option.getD_none, Option.isSome_none, Option.some.injEq, Prod.mk.injEq] at e
    obtain ⟨rfl, rfl⟩ := e
    exact ⟨rfl, hn⟩
  · cases e
theorem insert_up {xs : Array Nat} {j : Nat} (hx : xs.toList.Pairwise (· < ·)) (hn : xs[SetTable.below xs j]? ≠ some j) : (SetTable.insertAt xs (SetTable.below xs j) j).toList.Pairwise (· < ·) := by
  obtain ⟨a, b, c⟩ := below_ok j hx
  rw [SetTable.toList_insertAt]
  generalize hp : SetTable.below xs j = p at a b c hn
  have h1 : ∀ y ∈ xs.toList.take p, y < j := fun y hy => by
    obtain ⟨i, hi, rfl⟩ := List.getElem_of_mem hy
    have hi' : i < p ∧ i < xs.toList.length := by simp at hi ⊢; (first | lia | omega)
    refine a i hi'.1 _ ?_
    rw [← Array.getElem?_toList, List.getElem_take, List.getElem?_eq_getElem hi'.2]
  have h2 : ∀ y ∈ xs.toList.drop p, j < y := fun y hy => by
    obtain ⟨i, hi, rfl⟩ := List.getElem_of_mem hy
    have hi' : p + i < xs.toList.length := by simp at hi ⊢; (first | lia | omega)
    have e : xs[p + i]? = some (xs.toList.drop p)[i] := by rw [← Array.getElem?_toList, List.getElem_drop, List.getElem?_eq_getElem hi']
    have le := b (p + i) (by (first | lia | omega)) _ e
    rcases Nat.lt_or_ge j (xs.toList.drop p)[i] with q | q
    · exact q
    · exfalso
      have ej : (xs.toList.drop p)[i] = j := by (first | lia | omega)
      rw [ej] at e
      cases i with
      | zero => exact hn e
      | succ i =>
        have hlt : p < xs.toList.length := by (first | lia | omega)
        have e0 : xs[p]? = some xs.toList[p] := by rw [← Array.getElem?_toList, List.getElem?_eq_getElem hlt]
        have l0 := b p (Nat.le_refl _) _ e0
        have l1 := List.pairwise_iff_getElem.mp hx p (p + (i + 1)) hlt hi' (by (first | lia | omega))
        have e1 : xs.toList[p + (i + 1)] = j := by
          rw [← Array.getElem?_toList, List.getElem?_eq_getElem hi'] at e
          exact Option.some.inj e
        (first | lia | omega)
  rw [List.pairwise_append]
  refine ⟨hx.sublist (List.take_sublist _ _), List.pairwise_cons.mpr ⟨h2, hx.sublist (List.drop_sublist _ _)⟩, fun x hx' y hy => ?_⟩
  have := h1 x hx'
  rcases List.mem_cons.mp hy with e | e
  · rw [e]; exact this
  · have := h2 y e; (first | lia | omega)
theorem range_up (n : Nat) : (Array.range n).toList.Pairwise (· < ·) := by
  rw [Array.toList_range]; exact List.pairwise_lt_range
theorem standIn_ri (t : SetTable) (n : Nat) : Ri (t.standIn n) := ⟨range_up n, rfl⟩
theorem layNew_ri {t : SetTable} (es : Array (Int × Value)) (h : Int) (x : Value) (r : Ri t) : Ri (layNew t es h x).2.1 ∧ (layNew t es h x).2.1.led = t.led := by
  unfold layNew
  split
  · rename_i j b e
    obtain ⟨_, hn⟩ := free_slot r.clean e
    simp only [SetTable.put]
    have hd : (if SetTable.has t.dummies j = true then SetTable.eraseAt t.dummies (SetTable.below t.dummies j) else t.dummies) = #[] := by
      rw [no_dummy r.clean]; simpa using r.clean
    rw [hd]
    unfold SetTable.orStandIn
    split
    · exact ⟨⟨insert_up r.up hn, rfl⟩, rfl⟩
    · exact ⟨standIn_ri _ _, rfl⟩
  · exact ⟨standIn_ri _ _, rfl⟩
theorem laid_ri {m f mv : Nat} {l p : Bool} {hs : Array Int} {t : SetTable} {o : Array Nat} (e : SetTable.laid m f mv l p hs = some (t, o)) : Ri t ∧ t.led = l := by
  unfold SetTable.laid at e
  obtain ⟨ow, h1, h2⟩ := Option.bind_eq_some_iff.mp e
  simp only [Option.pure_def, Option.some.injEq, Prod.mk.injEq] at h2
  obtain ⟨rfl, _⟩ := h2
  refine ⟨⟨?_, rfl⟩, rfl⟩
  simp only [List.map_filterMap]
  refine List.Pairwise.filterMap _ ?_ (List.pairwise_lt_range (n := m + 1))
  intro a a' haa b hb b' hb'
  simp only [Option.map_map, Option.map_eq_some_iff] at hb hb'
  obtain ⟨_, _, rfl⟩ := hb
  obtain ⟨_, _, rfl⟩ := hb'
  exact haa
theorem relayAll_ri {t : SetTable} (es : Array (Int × Value)) (n : Nat) : Ri (relayAll t es n).2.1 ∧ (relayAll t es n).2.1.led = t.led := by
  unfold relayAll
  split
  · rename_i t' o e
    simp only
    split
    · exact laid_ri e
    · exact ⟨standIn_ri _ _, rfl⟩
  · exact ⟨standIn_ri _ _, rfl⟩
theorem erase_perm {α : Type} : ∀ {l : List α} {i : Nat} (h : i < l.length), (l[i] :: l.eraseIdx i).Perm l
  | a :: l, 0, _ => List.Perm.refl _
  | a :: l, i + 1, h => by
    have ih := erase_perm (l := l) (i := i) (by simpa using h)
    simp only [List.getElem_cons_succ, List.eraseIdx_cons_succ]
    exact (List.Perm.swap _ _ _).trans (ih.cons a)
theorem pick_go {α : Type} (next : Nat → Nat) : ∀ (f k : Nat) (left : List α) (out : Array α), left.length ≤ f → (pickOrder.go next f k left out).toList.Perm (out.toList ++ left)
  | 0, k, left, out, h => by
    have : left = [] := List.length_eq_zero_iff.mp (by (first | lia | omega))
    subst this
    simp [pickOrder.go]
  | f + 1, k, left, out, h => by
    unfold pickOrder.go
    split
    · rename_i x hx
      obtain ⟨hlt, e⟩ := List.getElem?_eq_some_iff.mp hx
      have ih := pick_go next f (k + 1) (left.eraseIdx (next k % left.length)) (out.push x) (by rw [List.length_eraseIdx_of_lt hlt]; (first | lia | omega))
      refine ih.trans ?_
      rw [Array.toList_push, List.append_assoc]
      refine List.Perm.append_left _ ?_
      rw [← e]
      exact erase_perm hlt
    · rename_i hx
      have : left = [] := by
        cases left with
        | nil => rfl
        | cons y l =>
          have hp : 0 < (y :: l).length := by simp
          have := Nat.mod_lt (next k) hp
          rw [List.getElem?_eq_getElem this] at hx
          cases hx
      subst this
      simp
theorem pick_perm {α : Type} (next : Nat → Nat) (xs : Array α) : (pickOrder next xs).toList.Perm xs.toList := by
  have := pick_go next xs.size 0 xs.toList #[] (by simp)
  simpa [pickOrder] using this
end St

set_option linter.all false
namespace St
open PySem
noncomputable def key : Int × Value → Int
  | (_, .int k _) => k
  | _ => 0
noncomputable def En (e : Int × Value) : Prop := ∃ k t, e = (hashInt k, .int k t)
noncomputable def dd (σ : List Int) (k : Int) : List Int := if σ.any (· == k) then σ else σ ++ [k]
noncomputable def SetR (w : World) (h : Heap) (a : Addr) (σ : List Int) : Prop :=
  ∃ o es ep t, h.get? a = some o ∧ o.ExactSet ∧ o.data = .set es ep t ∧ (∀ e ∈ es.toList, En e) ∧ (es.toList.map key).Perm σ ∧ es.size < scanBound ∧ t.fits es.size = true ∧ Ri t ∧ (w.params.followText "set-order" = false → t.led = true)
section
variable {prog : Program} {w : World} {A : Around} {E : Value → Shared → Prop} {s : Shared}
theorem en_elems {l : List (Int × Value)} (h : ∀ e ∈ l, En e) : ElemsOf (intKind prog w) l := fun e he => by
  obtain ⟨k, t, rfl⟩ := h e he
  exact ⟨⟨k, intKind_is _ _ _ _, rfl⟩, rfl⟩
theorem en_is {e : Int × Value} (h : En e) (k : Int) : (intKind prog w).is k e.2 = decide (k = key e) := by
  obtain ⟨n, t, rfl⟩ := h
  exact KeyKind.is_eq_decide (intKind_is prog w n t) k
theorem SetR.keep {h h' : Heap} {a : Addr} {σ : List Int} (x : SetR w h a σ) (k : ∀ o, h.get? a = some o → h'.get? a = some o) : SetR w h' a σ :=
  let ⟨o, es, ep, t, ho, r⟩ := x; ⟨o, es, ep, t, k o ho, r⟩
theorem put_r {h : Heap} {a : Addr} {o : Obj} {es es' : Array (Int × Value)} {ep : Nat} {t t' : SetTable} {σ : List Int} (ho : h.get? a = some o) (hx : o.ExactSet) (hd : o.data = .set es ep t)
    (he : ∀ e ∈ es'.toList, En e) (hp : (es'.toList.map key).Perm σ) (hb : es'.size < scanBound) (hf : t'.fits es'.size = true) (hr : Ri t') (hl : w.params.followText "set-order" = false → t'.led = true) :
    (h.update a (Obj.putSet es' t')).get? a = some { o with data := .set es' (ep + 1) t' } ∧ SetR w (h.update a (Obj.putSet es' t')) a σ := by
  have g : (h.update a (Obj.putSet es' t')).get? a = some { o with data := .set es' (ep + 1) t' } := by
    have z := Heap.get?_update_self (Obj.putSet es' t') ho (by rw [putSet_of es' t' hd]; rfl)
    rw [putSet_of es' t' hd] at z
    exact z
  exact ⟨g, _, es', ep + 1, t', g, hx, rfl, he, hp, hb, hf, hr, hl⟩
theorem lay_r {t : SetTable} {es : Array (Int × Value)} {n : Nat} (he : ∀ e ∈ es.toList, En e) : (∀ e ∈ (relayAll t es n).1.toList, En e) ∧ ((relayAll t es n).1.toList.map key).Perm (es.toList.map key) ∧ (relayAll t es n).1.size = es.size := by
  have p := relayAll_perm t es n
  refine ⟨fun e h => he e (p.mem_iff.mp h), p.map key, ?_⟩
  have := p.length_eq
  simpa using this
theorem tail_r {g : Bool → Sem Unit} (hg : ∀ (b : Bool) (s₁ : Shared) (Q' : Unit → Shared → Prop), Q' () s₁ → wpAny (model prog w) A (g b) Q' E s₁) {a : Addr} {o : Obj} {es es1 : Array (Int × Value)} {ep : Nat} {t t2 : SetTable} {σ : List Int}
    (ho : s.heap.get? a = some o) (hx : o.ExactSet) (hd : o.data = .set es ep t) (he : ∀ e ∈ es1.toList, En e) (hp : (es1.toList.map key).Perm σ) (hb : es1.size < scanBound) (hf : t2.fits es1.size = true) (hr : Ri t2)
    (hl : w.params.followText "set-order" = false → t2.led = true) {wd : Bool} {R : Option Bool → Shared → Prop} (h : ∀ h', Heap.SameBut a s.heap h' → SetR w h' a σ → R (some true) { s with heap := h' }) :
    wpAny (model prog w) A (do
      storeSet a es1 t2
      if (!wd && t2.tooFull) = true then do
          g (relayAll t2 es1 (SetTable.grown es1.size)).2.2
          storeSet a (relayAll t2 es1 (SetTable.grown es1.size)).1 (relayAll t2 es1 (SetTable.grown es1.size)).2.1
          pure (some true)
        else pure (some true)) R E s := by
  obtain ⟨g1, S1⟩ := put_r (w := w) ho hx hd he hp hb hf hr hl
  refine wpAny_bind (wpAny_storeSet_of ho hd ?_ (fits_of_scanBound hb))
  have sb := Heap.SameBut.update s.heap a (Obj.putSet es1 t2)
  split
  · obtain ⟨q1, q2, q3⟩ := lay_r (t := t2) (n := SetTable.grown es1.size) he
    have q4 := relayAll_fits t2 es1 (SetTable.grown es1.size)
    have q5 := relayAll_ri (t := t2) es1 (SetTable.grown es1.size)
    have q6 : (relayAll t2 es1 (SetTable.grown es1.size)).1.size < scanBound := by rw [q3]; exact hb
    refine wpAny_bind (hg _ _ _ ?_)
    refine wpAny_bind (wpAny_storeSet_of g1 rfl ?_ (fits_of_scanBound q6))
    obtain ⟨_, S2⟩ := put_r (w := w) g1 hx rfl q1 (q2.trans hp) q6 q4 q5.1 (fun z => by rw [q5.2]; exact hl z)
    exact wpAny_pure (h _ (sb.trans (Heap.SameBut.update _ a _)) S2)
  · exact wpAny_pure (h _ sb S1)
theorem add_r {a : Addr} {σ : List Int} {k : Int} {tk : Tok} {Q : Bool → Shared → Prop} (hS : SetR w s.heap a σ) (hm : σ.length + 1 < scanBound)
    (h : ∀ b h', Heap.SameBut a s.heap h' → SetR w h' a (dd σ k) → Q b { s with heap := h' }) : wpAny (model prog w) A (setAddHashed a (.int k tk) (hashInt k)) Q E s := by
  obtain ⟨o, es, ep, t, ho, hx, hd, he, hp, hb, hf, hr, hl⟩ := hS
  have hel := en_elems (prog := prog) (w := w) he
  have hz : es.size = σ.length := by have := hp.length_eq; simpa using this
  unfold setAddHashed setAddHashedIn
  refine wpAny_holding (wpAny_bind (wpAny_setState_of ho hd hf ?_))
  dsimp only
  rw [byScan_of (knd := intKind prog w) rfl hb hel]
  simp only [↓reduceIte]
  unfold setAddByScan
  refine wpAny_bind (wpAny_bind (wpAny_rule (wpAny_bind (wpAny_setScan_of (knd := intKind prog w) (k := k) (intKind_is _ _ _ _) ho hd hf hel ?_))))
  have an : σ.any (· == k) = es.toList.any fun e => (intKind prog w).is k e.2 := by
    rw [Bool.eq_iff_iff, List.any_eq_true, List.any_eq_true]
    constructor
    · rintro ⟨n, hn, e⟩
      obtain ⟨x, hx', rfl⟩ := List.mem_map.mp (hp.mem_iff.mpr hn)
      exact ⟨x, hx', by rw [en_is (he x hx')]; simp at e; simp [e]⟩
    · rintro ⟨x, hx', e⟩
      rw [en_is (he x hx')] at e
      exact ⟨key x, hp.mem_iff.mp (List.mem_map.mpr ⟨x, hx', rfl⟩), by simp at e; simp [e]⟩
  cases hr' : List.findIdx? (fun e => (intKind prog w).is k e.2) es.toList with
  | some j =>
    obtain ⟨hj, hpj, _⟩ := List.findIdx?_eq_some_iff_getElem.mp hr'
    have ya : σ.any (· == k) = true := by rw [an, List.any_eq_true]; exact ⟨_, List.getElem_mem hj, hpj⟩
    have z := h false s.heap (Heap.SameBut.refl a s.heap) (by unfold dd; rw [if_pos ya]; exact ⟨o, es, ep, t, ho, hx, hd, he, hp, hb, hf, hr, hl⟩)
    exact wpAny_pure (wpAny_pure z)
  | none =>
    have ya : ¬ σ.any (· == k) = true := by
      rw [an, List.any_eq_true]
      rintro ⟨x, hx', e⟩
      have := List.findIdx?_eq_none_iff.mp hr' x hx'
      rw [e] at this
      cases this
    dsimp only
    have p1 := layNew_perm t es (hashInt k) (.int k tk)
    have p2 := layNew_fits t es (hashInt k) (.int k tk)
    have p3 := layNew_ri es (hashInt k) (.int k tk) hr
    rw [Array.toList_push] at p1
    show wpAny _ _ (match layNew t es (hashInt k) (.int k tk) with | (es, t, wasDummy, gave) => _) _ _ _
    generalize layNew t es (hashInt k) (.int k tk) = L at p1 p2 p3 ⊢
    obtain ⟨es1, t1, wd, gv⟩ := L
    dsimp only at p1 p2 p3 ⊢
    have he1 : ∀ e ∈ es1.toList, En e := fun e hm' => by
      rcases List.mem_append.mp (p1.mem_iff.mp hm') with q | q
      · exact he e q
      · rw [List.mem_singleton.mp q]; exact ⟨k, tk, rfl⟩
    have hp1 : (es1.toList.map key).Perm (dd σ k) := by
      unfold dd
      rw [if_neg ya]
      refine (p1.map key).trans ?_
      rw [List.map_append]
      exact List.Perm.append_right _ hp
    have hz1 : es1.size = σ.length + 1 := by have := p1.length_eq; simp at this; (first | lia | omega)
    have hb1 : es1.size < scanBound := by (first | lia | omega)
    have gw : ∀ (b : Bool) (s₁ : Shared) (Q' : Unit → Shared → Prop), Q' () s₁ → wpAny (model prog w) A (match b with | true => rule "set.scan.the-table-gave-way" | false => pure ()) Q' E s₁ := fun b s₁ Q' q => by
      cases b
      · exact wpAny_pure q
      · exact wpAny_rule q
    refine wpAny_bind (gw _ _ _ ?_)
    split
    · refine wpAny_bind ?_
      rw [hashByValue_scannable 8 (show (Value.int k tk).scannable = true from rfl)]
      refine wpAny_pure ?_
      show wpAny _ _ (_ >>= _) _ _ _
      refine tail_r gw ho hx hd he1 hp1 hb1 p2 p3.1 (fun z => by rw [p3.2]; exact hl z) ?_
      intro h' sb hS'
      exact wpAny_pure (h true h' sb hS')
    · refine wpAny_bind (wpAny_pure ?_)
      simp only [↓reduceIte]
      refine tail_r gw ho hx hd he1 hp1 hb1 p2 p3.1 (fun z => by rw [p3.2]; exact hl z) ?_
      intro h' sb hS'
      exact wpAny_pure (h true h' sb hS')
end
end St

set_option linter.all false
set_option maxRecDepth 100000
namespace St
open PySem PySem.Spec PyProof.Rows
noncomputable def fm (val : Nat → Int) (i : Nat) : List Int := ((List.range i).map val).foldl dd []
theorem fm_succ (val : Nat → Int) (i : Nat) : fm val (i + 1) = dd (fm val i) (val i) := by
  unfold fm; rw [List.range_succ, List.map_append, List.foldl_append]; rfl
theorem dd_le (σ : List Int) (k : Int) : (dd σ k).length ≤ σ.length + 1 := by
  unfold dd; split <;> simp
theorem fm_le (val : Nat → Int) : ∀ i, (fm val i).length ≤ i
  | 0 => Nat.le_refl _
  | i + 1 => by rw [fm_succ]; have := fm_le val i; have := dd_le (fm val i) (val i); (first | lia | omega)
section
variable {prog : Program} {w : World} {A : Around} {R : Result → Shared → Prop} {I : Addr} {fp wr : List Addr} {G : Array GenState → Array GenState → Prop} {n : Nat} {P : Nat → Value → Prop} {T : Nat → Shared → Prop}
theorem upd_loop (W : WalksS prog w A.in1 I fp wr G n P T) (a : Addr) (ha : a ∉ fp) (val : Nat → Int) (hv : ∀ i v, P i v → ∃ t, v = .int (val i) t) (hb : n + 1 < scanBound) :
    ∀ (d i : Nat) (s : Shared), n - i = d → i ≤ n → T i s → SetR w s.heap a (fm val i) → (∀ s', Moved (a :: wr) G s s' → SetR w s'.heap a (fm val n) → R (.ok (.ret .none)) s') →
      codeAny (model prog w) A (.builtin "set.update.loop" ⟨[.ref a, .ref I], []⟩) R s := by
  have hw : a ∉ wr := fun z => ha (W.sub _ z)
  have up : ∀ b ∈ wr, b ∈ a :: wr := fun b z => List.mem_cons_of_mem _ z
  intro d
  induction d with
  | zero =>
    intro i s hk hi ht hS hR
    have e : i = n := by (first | lia | omega)
    subst e
    refine codeAny_builtin PyProof.Rows.F.entry_set_update_loop ?_
    rw [Around.under_plainId PyProof.Rows.F.plain_set_update_loop _]
    show wpAny _ A.in1 (pyNext (.ref I) >>= _) _ _ s
    refine wpAny_bind (W.done s _ _ ht fun s' hm => ?_)
    exact wpAny_pure (hR s' (hm.mono up) (hS.keep fun o z => hm.heap a o hw z))
  | succ d ih =>
    intro i s hk hi ht hS hR
    have lt : i < n := by (first | lia | omega)
    refine codeAny_builtin PyProof.Rows.F.entry_set_update_loop ?_
    rw [Around.under_plainId PyProof.Rows.F.plain_set_update_loop _]
    show wpAny _ A.in1 (pyNext (.ref I) >>= _) _ _ s
    refine wpAny_bind (W.item i s _ _ lt ht fun v s' hP ht' hm => ?_)
    obtain ⟨t, rfl⟩ := hv i v hP
    show wpAny _ A.in1 (holding [Value.int (val i) t] (setAdd a (.int (val i) t)) >>= _) _ _ s'
    refine wpAny_bind (wpAny_holding ?_)
    unfold setAdd
    refine wpAny_holding (wpAny_bind ((intKind prog w).pyHash (k := val i) (intKind_is _ _ _ _) ?_))
    have fl := fm_le val i
    refine add_r (s := { s' with toks := s'.toks + 1 }) (hS.keep fun o z => hm.heap a o hw z) (by (first | lia | omega)) fun b h' sb hS' => ?_
    rw [← fm_succ] at hS'
    refine wpAny_pure ⟨plainId_quiet PyProof.Rows.F.plain_set_update_loop _, ih (i + 1) _ (by (first | lia | omega)) lt (W.frame _ s' _ _ ht' (Nat.le_succ _) fun b z o e => ?_) hS' fun s'' hm' hS'' => ?_⟩
    · rw [sb.2 b (fun q : b = a => ha (q ▸ z))]; exact e
    · refine hR s'' (Moved.trans W.gtrans ((hm.mono up).then_heap (Nat.le_succ _) fun b o z e => ?_) hm') hS''
      rw [sb.2 b (fun q : b = a => z (by rw [q]; exact List.mem_cons_self))]; exact e
end
noncomputable def newO (w : World) : Obj := { cls := .type "set", dict := none, data := .set #[] 0 (.fresh 0 0 (!w.params.followText "set-order")) }
theorem newO_r {w : World} {h : Heap} {a : Addr} (e : h.get? a = some (newO w)) : SetR w h a [] := by
  refine ⟨_, #[], 0, _, e, ⟨rfl, rfl, rfl⟩, rfl, by simp, List.Perm.refl _, by decide, rfl, ⟨List.Pairwise.nil, rfl⟩, fun z => ?_⟩
  show (!w.params.followText "set-order") = true
  rw [z]; rfl
section
variable {prog : Program} {w : World} {A : Around} {E : Value → Shared → Prop} {s : Shared}
theorem new_r (v : Value) {Q : Value → Shared → Prop} (h : Q (.ref s.heap.objs.size) { s with heap := s.heap.push (newO w) }) : codeAny (model prog w) A (.call (.builtin "set.__new__") ⟨[.type "set", v], []⟩) (wants Q E) s := by
  refine codeAny_of_tree ?_
  show wpAny _ A.in1 (checkBuiltinCall "set.__new__" ⟨[.type "set", v], []⟩ >>= fun _ => again (.builtin "set.__new__" ⟨[.type "set", v], []⟩)) _ _ s
  refine wpAny_bind (wpAny_of_eq (PySem.F.newCall_set_1 v) (wpAny_pure ⟨plainId_quiet PySem.F.plain_set_new _, codeAny_builtin PySem.F.entry_set_new ?_⟩))
  rw [Around.under_plainId PySem.F.plain_set_new _]
  unfold Builtin.«set.__new__» Builtin.Frozenset.newClass
  have hsub := sub_set_self
  obtain ⟨hp, g, d, tk, os⟩ := s
  dsimp only
  wp_walk
  refine wpAny_askSetting (wpAny_pure ?_)
  dsimp only
  simp only [newObj]
  exact wpAny_bind (wpAny_alloc (wpAny_pure (wpAny_pure h)))
set_option maxHeartbeats 4000000 in
theorem call_set_r {l : Addr} {xs : Array Value} {ns : List Int} {Q : Value → Shared → Prop} (hh : A.handled = none) (hl : s.heap.IsList l xs) (hi : IntsAre xs.toList ns) (hb : xs.size + 1 < scanBound)
    (h : ∀ (h' : Heap) (tk : Nat), SetR w h' s.heap.objs.size (fm (fun i => ns.getD i 0) xs.size) → (∀ b o, b < s.heap.objs.size → s.heap.get? b = some o → h'.get? b = some o) → Q (.ref s.heap.objs.size) { s with heap := h', toks := tk }) :
    wpAny (model prog w) A (call (.type "set") [.ref l]) Q E s := by
  obtain ⟨c, tl, hmro⟩ := PySem.F.called_set.mro
  have hmade := PySem.F.called_set.made
  have hsub := PySem.F.called_set.sub
  refine wpAny_call (codeAny_of_tree ?_)
  show wpAny _ _ (callAny (.type "set") _) _ _ _
  refine wpAny_pure ⟨Code.quiet_builtin _ (by decide +kernel), codeAny_builtin PySem.F.entry_type_call ?_⟩
  rw [Around.under_plain (weight_type_call_type "set" [.ref l] []) rfl]
  have h1 := PySem.F.called_set.notType
  have h2 := PySem.F.called_set.canCreate
  have hct := PySem.F.typeCall_set_1 (.ref l)
  repeat (any_goals first | assumption | wp_step)
  refine codeAny_mono (new_r (.ref l) (E := E) (Q := fun v s₁ => v = .ref s.heap.objs.size ∧ s₁ = { s with heap := s.heap.push (newO w) }) ⟨rfl, rfl⟩) fun r s₁ hr => ?_
  cases r with
  | error e => exact hr
  | ok fl =>
    cases fl with
    | ret v =>
      obtain ⟨rfl, rfl⟩ := hr
      have hS : (s.heap.push (newO w)).get? s.heap.objs.size = some (newO w) := Heap.get?_push_size _ rfl
      have hT : Shared.TypeIs { s with heap := s.heap.push (newO w) } (.ref s.heap.objs.size) "set" := ⟨_, hS, rfl⟩
      have hli := PySem.F.called_set.init.lookup
      have hbi := PySem.F.called_set.init.bind (.ref s.heap.objs.size)
      repeat (any_goals first | assumption | wp_step)
      refine codeAny_mono (codeAny_call_builtin (R := wants (fun r s₂ => r = .none ∧ ∃ h' tk, s₂ = { s with heap := h', toks := tk } ∧ SetR w h' s.heap.objs.size (fm (fun i => ns.getD i 0) xs.size) ∧
          (∀ b o, b < s.heap.objs.size → s.heap.get? b = some o → h'.get? b = some o)) E) PySem.F.called_set.init.plain PySem.F.entry_set_init (check_set_init_1 hT ?_)) fun r₂ s₂ hr₂ => ?_
      · obtain ⟨ol, hol, hcl, nl, hdl⟩ := hl
        obtain ⟨ocls, odict, odata, oslots⟩ := ol
        simp only at hcl hdl
        subst hcl; subst hdl
        have hol' : (s.heap.push (newO w)).get? l = some { cls := .type "list", dict := odict, data := .seq xs nl, slots := oslots } := Heap.get?_push_of_some _ hol
        have hsls := PySem.F.sub_list_set
        have hslf := PySem.F.sub_list_frozenset
        have hne : (Value.type "list" == Value.type "dict") = false := by decide
        have hl1 : (s.heap.push (newO w)).IsList l xs := ⟨_, hol', rfl, nl, rfl⟩
        unfold Builtin.«set.__init__» noKeywords Builtin.Frozenset.updateFrom
        generalize hPI : pyIter = PI
        wp_walk
        subst hPI
        refine wpAny_pyIter_list hl1 (wpAny_bind (wpAny_runValue ?_))
        have lS : l < s.heap.objs.size := Heap.lt_size hol
        have zs : (s.heap.push (newO w)).objs.size = s.heap.objs.size + 1 := Heap.size_push ..
        have ne1 : l ≠ (s.heap.push (newO w)).objs.size := by rw [zs]; exact Nat.ne_of_lt (Nat.lt_succ_of_lt lS)
        have nf : s.heap.objs.size ∉ [(s.heap.push (newO w)).objs.size, l] := by
          rw [zs]
          simp only [List.mem_cons, List.not_mem_nil, or_false, not_or]
          exact ⟨Nat.ne_of_lt (Nat.lt_succ_self _), Nat.ne_of_gt lS⟩
        refine upd_loop ((Walks.list (A := A.in1.in1.in1) (by simp [hh]) _ l ne1 xs).toS) s.heap.objs.size nf (fun i => ns.getD i 0) (fun i v hv => IntsAre.int_at hi i v (by rw [Array.getElem?_toList]; exact hv)) hb (xs.size - 0) 0 _ (by (first | lia | omega)) (Nat.zero_le _)
          ⟨⟨_, Heap.get?_push_size _ rfl, rfl, rfl⟩, hl1.push _⟩ (newO_r (Heap.get?_push_of_some _ hS)) fun s' hm hS' => ?_
        obtain ⟨h', g', d', tk', os'⟩ := s'
        have eg : g' = s.gens := hm.gens
        have ed : d' = s.drawn := hm.drawn
        have eo : os' = s.os := hm.os
        subst eg; subst ed; subst eo
        refine wpAny_pure ?_
        show wpAny _ _ (ret Value.none) _ _ _
        refine wpAny_pure ⟨rfl, h', tk', rfl, hS', fun b o hb e => hm.heap b o ?_ (Heap.get?_push_of_some _ (Heap.get?_push_of_some _ e))⟩
        simp only [List.mem_cons, List.not_mem_nil, or_false, not_or]
        exact ⟨Nat.ne_of_lt hb, by rw [zs]; exact Nat.ne_of_lt (Nat.lt_succ_of_lt hb)⟩
      · cases r₂ with
        | error e => exact hr₂
        | ok fl₂ =>
          cases fl₂ with
          | ret r =>
            obtain ⟨rfl, h', tk, rfl, hS', hk'⟩ := hr₂
            repeat (any_goals first | assumption | wp_step)
            exact h _ _ hS' hk'
          | _ => exact hr₂.elim
    | _ => exact hr.elim
end
end St

set_option linter.all false
set_option maxRecDepth 100000
namespace St
open PySem
theorem own_si : Manifest.owners.lookup (String.ofList ['r', 'o', 't', 'a', 'r', 'e', 't', 'i', '_', 't', 'e', 's'].reverse) = some Manifest.sig_set_iterator := by kernel_rfl
theorem slot_sn : Slot "set_iterator" "__next__" "set_iterator.__next__" := by
  refine .of (owner := "set_iterator") (n := "__next__") ?_ (by decide +kernel) (by decide +kernel) (by decide +kernel) ?_ ?_
  · rw [typeLookup_type, builtinLookup_eq_fast]; kernel_rfl
  · first | exact .inl (by decide +kernel) | exact .inr (by decide +kernel)
  · rw [isSubtype_type]; kernel_rfl
theorem entry_sn : entryFor table "set_iterator.__next__" = some Builtin.«set_iterator.__next__» := entryFor_of_tree (by kernel_rfl)
theorem args_sn (a : Value) : argsOk "set_iterator.__next__" ⟨[a], []⟩ := by
  unfold argsOk
  rw [signature?_of (id := "set_iterator.__next__") (n := ['_', '_', 't', 'x', 'e', 'n', '_', '_']) (o := ['r', 'o', 't', 'a', 'r', 'e', 't', 'i', '_', 't', 'e', 's']) (by kernel_rfl) own_si]
  kernel_rfl
theorem slot_si : Slot "set_iterator" "__iter__" "set_iterator.__iter__" := by
  refine .of (owner := "set_iterator") (n := "__iter__") ?_ (by decide +kernel) (by decide +kernel) (by decide +kernel) ?_ ?_
  · rw [typeLookup_type, builtinLookup_eq_fast]; kernel_rfl
  · first | exact .inl (by decide +kernel) | exact .inr (by decide +kernel)
  · rw [isSubtype_type]; kernel_rfl
theorem entry_it : entryFor table "set.__iter__" = some Builtin.«frozenset.__iter__» := entryFor_alias (id' := "frozenset.__iter__") (by kernel_rfl) rfl (by decide +kernel) (by kernel_rfl)
noncomputable abbrev itO (f : Value) (i : Nat) (a : Addr) (n ep : Nat) : Obj := { cls := .type "set_iterator", dict := none, data := .fields #[f, .int i 0, .ref a, .int n 0, .int ep 0], slots := #[] }
noncomputable def sl (t : SetTable) : Nat → Nat
  | 0 => 0
  | i + 1 => t.place.getD i 0 + 1
theorem below_sl {t : SetTable} (r : Ri t) {i : Nat} (h : i ≤ t.place.size) : SetTable.below t.place (sl t i) = i := by
  obtain ⟨a, b, c⟩ := below_ok (sl t i) r.up
  generalize SetTable.below t.place (sl t i) = p at a b c
  have pw := List.pairwise_iff_getElem.mp r.up
  cases i with
  | zero =>
    rcases Nat.eq_zero_or_pos p with z | z
    · exact z
    · have := a 0 z t.place[0] (Array.getElem?_eq_getElem (by (first | lia | omega)))
      simp [sl] at this
  | succ i =>
    have e : sl t (i + 1) = t.place[i] + 1 := by simp [sl, show i < t.place.size by (first | lia | omega)]
    rw [e] at a b
    have h1 : i < p := by
      rcases Nat.lt_or_ge i p with z | z
      · exact z
      · have := b i z t.place[i] (Array.getElem?_eq_getElem (by (first | lia | omega))); (first | lia | omega)
    rcases Nat.lt_or_ge (i + 1) p with z | z
    · have q := a (i + 1) z t.place[i + 1] (Array.getElem?_eq_getElem (by (first | lia | omega)))
      have := pw i (i + 1) (by simp; (first | lia | omega)) (by simp; (first | lia | omega)) (by (first | lia | omega))
      simp only [Array.getElem_toList] at this
      (first | lia | omega)
    · (first | lia | omega)
noncomputable def Md (w : World) (h : Heap) (a T : Addr) (ord : List Value) (i : Nat) (es : Array (Int × Value)) (ep : Nat) (t : SetTable) (f : Value) : Prop :=
  (w.params.followText "set-order" = true ∧ (pickOrder (w.params.setOrder a ep) es).toList.map (·.2) = ord ∧ ∃ k : Nat, f = .int k 0) ∨
  (w.params.followText "set-order" = false ∧ f = .ref T ∧ ∃ ps : List Nat, h.get? T = some { cls := .type "tuple", data := .seq (ps.map fun (p : Nat) => rawInt p).toArray } ∧ ps.map (fun p => (es[p]?).map (·.2)) = ord.map some) ∨
  (w.params.followText "set-order" = false ∧ (!t.plain && decide (es.size > 1)) = false ∧ Ri t ∧ t.led = true ∧ es.toList.map (·.2) = ord ∧ f = .int (sl t i) 0)
noncomputable def SIt (w : World) (h : Heap) (I a T : Addr) (ord : List Value) (i : Nat) : Prop :=
  ∃ o es ep t f, h.get? a = some o ∧ o.data = .set es ep t ∧ t.fits es.size = true ∧ es.size = ord.length ∧ h.get? I = some (itO f i a es.size ep) ∧ Md w h a T ord i es ep t f
theorem SIt.keep {w : World} {h h' : Heap} {I a T : Addr} {ord : List Value} {i : Nat} (x : SIt w h I a T ord i) (k : ∀ b ∈ [I, a, T], ∀ o, h.get? b = some o → h'.get? b = some o) : SIt w h' I a T ord i := by
  obtain ⟨o, es, ep, t, f, h1, h2, h3, h4, h5, h6⟩ := x
  refine ⟨o, es, ep, t, f, k a (by simp) o h1, h2, h3, h4, k I (by simp) _ h5, ?_⟩
  rcases h6 with q | ⟨q1, q2, ps, q3, q4⟩ | q
  · exact .inl q
  · exact .inr (.inl ⟨q1, q2, ps, k T (by simp) _ q3, q4⟩)
  · exact .inr (.inr q)
section
variable {prog : Program} {w : World} {A : Around} {E : Value → Shared → Prop} {s : Shared}
theorem byText {Q : Bool → Shared → Prop} (h : Q (w.params.followText "set-order") s) : wpAny (model prog w) A setsByText Q E s := by
  unfold setsByText
  exact wpAny_bind (wpAny_askSetting (wpAny_pure h))
theorem ite_no {α : Type} {c : Prop} [Decidable c] {a b : Sem α} {Q : α → Shared → Prop} (n : ¬ c) (h : wpAny (model prog w) A b Q E s) : wpAny (model prog w) A (if c then a else b) Q E s := by
  rw [if_neg n]; exact h
theorem next_item {I a T : Addr} {ord : List Value} {i : Nat} {v : Value} {Q : Option Value → Shared → Prop} (hx : SIt w s.heap I a T ord i) (hI : I ≠ a) (hT : I ≠ T) (hv : ord[i]? = some v)
    (hQ : ∀ h', SIt w h' I a T ord (i + 1) → Heap.SameBut I s.heap h' → Q (some v) { s with heap := h' }) : wpAny (model prog w) A (pyNext (.ref I)) Q E s := by
  obtain ⟨o, es, ep, t, f, h1, h2, h3, h4, h5, h6⟩ := hx
  have hlt : i < ord.length := (List.getElem?_eq_some_iff.mp hv).1
  have ty : s.TypeIs (.ref I) "set_iterator" := ⟨_, h5, rfl⟩
  unfold pyNext
  refine wpAny_bind (wpAny_attempt (wpAny_callSpecial?_slot (name := Str.ofString "__next__") ty slot_sn (wpAny_call_entry slot_sn ty entry_sn ?_ (args_sn _))))
  unfold Builtin.«set_iterator.__next__»
  refine wpAny_bind (m := slotArgs "__next__" 0 _) (wpAny_pure ?_)
  refine wpAny_bind (wpAny_fieldsOf h5 rfl ?_)
  dsimp only
  refine wpAny_bind (wpAny_setEntries_of h1 h2 h3 ?_)
  rw [if_neg (by simp)]
  refine wpAny_bind (wpAny_pure ?_)
  rcases h6 with ⟨m1, m2, k, rfl⟩ | ⟨m1, rfl, ps, m2, m3⟩ | ⟨m1, m2, m3, m4, m5, rfl⟩
  · dsimp only
    refine wpAny_bind ?_
    unfold setNext
    refine wpAny_bind (wpAny_setState_of h1 h2 h3 ?_)
    refine wpAny_bind (byText ?_)
    rw [m1]
    simp only [Int.toNat_natCast, bne_self_eq_false, Bool.false_eq_true, if_true, if_false]
    refine wpAny_bind ?_
    unfold setWalk
    refine wpAny_bind (wpAny_setState_of h1 h2 h3 ?_)
    refine wpAny_bind (byText ?_)
    rw [m1]
    simp only [if_true]
    refine wpAny_bind (wpAny_askSetting (wpAny_pure ?_))
    refine wpAny_pure ?_
    have g : ∃ e, (pickOrder (w.params.setOrder a ep) es)[i]? = some e ∧ e.2 = v := by
      rw [← m2, List.getElem?_map, Option.map_eq_some_iff] at hv
      obtain ⟨e, he, rfl⟩ := hv
      exact ⟨e, by rw [← Array.getElem?_toList]; exact he, rfl⟩
    obtain ⟨e, he, rfl⟩ := g
    have he' : (pickOrder ({ program := (model prog w).prog, params := (model prog w).w.params : Setting }.params.setOrder a ep) es)[i]? = some e := he
    rw [he']
    dsimp only [Option.map]
    refine wpAny_bind (wpAny_setField_rec h5 (by simp) fun h₁ g₁ b₁ => ?_)
    refine wpAny_bind (wpAny_setField_rec g₁ (by simp) fun h₂ g₂ b₂ => ?_)
    refine wpAny_pure ⟨_, rfl, wpAny_pure (hQ _ ⟨o, es, ep, t, .int k 0, ?_, h2, h3, h4, g₂, .inl ⟨m1, m2, k, rfl⟩⟩ (b₁.trans b₂))⟩
    rw [b₂.2 a (Ne.symm hI), b₁.2 a (Ne.symm hI)]; exact h1
  · dsimp only
    refine wpAny_bind (wpAny_seqItems m2 rfl ?_)
    have g : ∃ p e, ps[i]? = some p ∧ es[p]? = some e ∧ e.2 = v := by
      have := congrArg (fun l => l[i]?) m3
      simp only [List.getElem?_map, hv, Option.map_some] at this
      obtain ⟨p, hp, z⟩ := Option.map_eq_some_iff.mp this
      obtain ⟨e, he, z2⟩ := Option.map_eq_some_iff.mp z
      exact ⟨p, e, hp, he, z2⟩
    obtain ⟨p, e, hp, he, rfl⟩ := g
    have hq : (ps.map fun (p : Nat) => rawInt p).toArray[i]? = some (rawInt p) := by simp [hp]
    simp only [Int.toNat_natCast]
    rw [hq]
    show wpAny _ _ (setNextDrawn a (p : Int).toNat ep >>= _) _ _ _
    refine wpAny_bind ?_
    unfold setNextDrawn
    refine wpAny_bind (wpAny_setState_of h1 h2 h3 ?_)
    simp only [Int.toNat_natCast, bne_self_eq_false, Bool.false_eq_true, if_false]
    refine wpAny_bind (wpAny_pure ?_)
    rw [he]
    refine wpAny_pure ?_
    refine wpAny_bind (wpAny_setField_rec h5 (by simp) fun h₁ g₁ b₁ => ?_)
    refine wpAny_pure ⟨_, rfl, wpAny_pure (hQ _ ⟨o, es, ep, t, .ref T, ?_, h2, h3, h4, g₁, .inr (.inl ⟨m1, rfl, ps, ?_, m3⟩)⟩ b₁)⟩
    · rw [b₁.2 a (Ne.symm hI)]; exact h1
    · rw [b₁.2 T (Ne.symm hT)]; exact m2
  · dsimp only
    have zs : t.place.size = es.size := by
      simp only [SetTable.fits, Bool.and_eq_true, beq_iff_eq] at h3; exact h3.1
    refine wpAny_bind ?_
    unfold setNext
    refine wpAny_bind (wpAny_setState_of h1 h2 h3 ?_)
    refine wpAny_bind (byText ?_)
    rw [m1]
    simp only [Int.toNat_natCast, Bool.false_eq_true, if_false]
    refine ite_no (fun z => ?_) ?_
    · rw [show (!t.plain && decide (es.size > 1)) = true from z] at m2
      cases m2
    · refine wpAny_bind ?_
      show wpAny _ _ (if (!t.led && !es.isEmpty) = true then unsupported _ else pure ()) _ _ _
      rw [m4, if_neg (by simp)]
      refine wpAny_pure ?_
      rw [below_sl m3 (by (first | lia | omega))]
      have he : es[i]? = some es[i] := Array.getElem?_eq_getElem (by (first | lia | omega))
      have hp : t.place[i]? = some t.place[i] := Array.getElem?_eq_getElem (by (first | lia | omega))
      rw [he, hp]
      have ev : es[i].2 = v := by
        rw [← m5, List.getElem?_map, Option.map_eq_some_iff] at hv
        obtain ⟨e, q1, q2⟩ := hv
        rw [Array.getElem?_toList, he] at q1
        rw [← q2, ← Option.some.inj q1]
      refine wpAny_pure ?_
      dsimp only
      refine wpAny_bind (wpAny_setField_rec h5 (by simp) fun h₁ g₁ b₁ => ?_)
      refine wpAny_bind (wpAny_setField_rec g₁ (by simp) fun h₂ g₂ b₂ => ?_)
      rw [ev]
      refine wpAny_pure ⟨_, rfl, wpAny_pure (hQ _ ⟨o, es, ep, t, .int (sl t (i + 1)) 0, ?_, h2, h3, h4, ?_, .inr (.inr ⟨m1, m2, m3, m4, m5, rfl⟩)⟩ (b₁.trans b₂))⟩
      · rw [b₂.2 a (Ne.symm hI), b₁.2 a (Ne.symm hI)]; exact h1
      · rw [g₂]
        simp [sl, rawInt, show i < t.place.size by (first | lia | omega)]
end
end St

set_option linter.all false
set_option maxRecDepth 100000
namespace St
open PySem
theorem entry_si : entryFor table "set_iterator.__iter__" = some Builtin.«dict_keyiterator.__iter__» := by
  refine entryFor_alias (id' := "dict_keyiterator.__iter__") (by kernel_rfl) ?_ (by decide +kernel) (by kernel_rfl)
  first | rfl | decide +kernel | (unfold String.splitOn; simp +decide [String.splitOnAux])
theorem args_si (a : Value) : argsOk "set_iterator.__iter__" ⟨[a], []⟩ := by
  unfold argsOk
  rw [signature?_of (id := "set_iterator.__iter__") (n := ['_', '_', 'r', 'e', 't', 'i', '_', '_']) (o := ['r', 'o', 't', 'a', 'r', 'e', 't', 'i', '_', 't', 'e', 's']) (by kernel_rfl) own_si]
  kernel_rfl
section
variable {prog : Program} {w : World} {A : Around} {E : Value → Shared → Prop} {s : Shared}
theorem ite_yes {α : Type} {c : Prop} [Decidable c] {a b : Sem α} {Q : α → Shared → Prop} (n : c) (h : wpAny (model prog w) A a Q E s) : wpAny (model prog w) A (if c then a else b) Q E s := by
  rw [if_pos n]; exact h
theorem stop_up {α : Type} {Q : α → Shared → Prop} (hh : A.handled = none) (h : ∀ h' e, (∀ b o, s.heap.get? b = some o → h'.get? b = some o) → Shared.TypeIs { s with heap := h' } (.ref e) "StopIteration" → E (.ref e) { s with heap := h' }) :
    wpAny (model prog w) A (newExc (.type "StopIteration") [] >>= fun e => (raiseNew e : Sem α)) Q E s := by
  refine wpAny_bind ?_
  simp only [newExc, newTuple]
  refine wpAny_bind (wpAny_newObj_type ?_ (by size_fits))
  refine wpAny_bind (m := firstArgMember _ _) (wpAny_of_eq (a := Value.none) (by first | rfl | (simp only [firstArgMember]; rfl)) (wpAny_newObj_type ?_ (by size_fits)))
  simp only [raiseNew]
  refine wpAny_bind (wpAny_handled ?_)
  rw [hh]
  exact wpAny_bind (wpAny_pure (wpAny_throw (h _ _ (fun b o e => Heap.get?_push_of_some _ (Heap.get?_push_of_some _ e)) ⟨_, Heap.get?_push_size _ rfl, rfl⟩)))
theorem next_end {I a T : Addr} {ord : List Value} {Q : Option Value → Shared → Prop} (hh : A.handled = none) (hx : SIt w s.heap I a T ord ord.length)
    (hQ : ∀ h', (∀ b o, b ≠ I → s.heap.get? b = some o → h'.get? b = some o) → Q none { s with heap := h' }) : wpAny (model prog w) A (pyNext (.ref I)) Q E s := by
  obtain ⟨o, es, ep, t, f, h1, h2, h3, h4, h5, h6⟩ := hx
  have ty : s.TypeIs (.ref I) "set_iterator" := ⟨_, h5, rfl⟩
  unfold pyNext
  refine wpAny_bind (wpAny_attempt (wpAny_callSpecial?_slot (name := Str.ofString "__next__") ty slot_sn (wpAny_call_entry slot_sn ty entry_sn ?_ (args_sn _))))
  unfold Builtin.«set_iterator.__next__»
  refine wpAny_bind (m := slotArgs "__next__" 0 _) (wpAny_pure ?_)
  refine wpAny_bind (wpAny_fieldsOf h5 rfl ?_)
  dsimp only
  refine wpAny_bind (wpAny_setEntries_of h1 h2 h3 ?_)
  rw [if_neg (by simp)]
  refine wpAny_bind (wpAny_pure ?_)
  have up : ∀ h₁, Heap.SameBut I s.heap h₁ → wpAny (model prog w) A.in1 (newExc (.type "StopIteration") [] >>= fun e => (raiseNew e : Sem PySem.Fin)) (fun fin s' => ∃ v, fin = .done (.ret v) ∧ wpAny (model prog w) A (pure (some v)) Q E s')
      (fun e s' => wpAny (model prog w) A (isInstance e (.type "StopIteration") >>= fun b => if b = true then pure none else throw e) Q E s') { s with heap := h₁ } := fun h₁ b₁ => by
    refine stop_up hh fun h' e k ty' => ?_
    refine wpAny_bind (wpAny_isInstance (T := "StopIteration") (b := true) ty' isSubtype_stop ?_)
    exact wpAny_pure (hQ _ fun b o n q => k b o (by rw [b₁.2 b n]; exact q))
  rcases h6 with ⟨m1, m2, k, rfl⟩ | ⟨m1, rfl, ps, m2, m3⟩ | ⟨m1, m2, m3, m4, m5, rfl⟩
  · dsimp only
    refine wpAny_bind ?_
    unfold setNext
    refine wpAny_bind (wpAny_setState_of h1 h2 h3 ?_)
    refine wpAny_bind (byText ?_)
    rw [m1]
    simp only [Int.toNat_natCast, bne_self_eq_false, Bool.false_eq_true, if_true, if_false]
    refine wpAny_bind ?_
    unfold setWalk
    refine wpAny_bind (wpAny_setState_of h1 h2 h3 ?_)
    refine wpAny_bind (byText ?_)
    rw [m1]
    simp only [if_true]
    refine wpAny_bind (wpAny_askSetting (wpAny_pure ?_))
    refine wpAny_pure ?_
    have he' : (pickOrder ({ program := (model prog w).prog, params := (model prog w).w.params : Setting }.params.setOrder a ep) es)[ord.length]? = none := by
      refine Array.getElem?_eq_none ?_
      have := congrArg List.length m2
      simp at this
      show (pickOrder (w.params.setOrder a ep) es).size ≤ _
      (first | lia | omega)
    rw [he']
    dsimp only [Option.map]
    exact wpAny_bind (wpAny_setField_rec h5 (by simp) fun h₁ g₁ b₁ => up h₁ b₁)
  · dsimp only
    refine wpAny_bind (wpAny_seqItems m2 rfl ?_)
    have lp : ps.length = ord.length := by have := congrArg List.length m3; simpa using this
    have hq : (ps.map fun (p : Nat) => rawInt p).toArray[ord.length]? = none := by simp [lp]
    simp only [Int.toNat_natCast]
    rw [hq]
    dsimp only
    refine wpAny_bind (wpAny_setField_rec h5 (by simp) fun h₁ g₁ b₁ => ?_)
    exact wpAny_bind (wpAny_setField_rec g₁ (by simp) fun h₂ g₂ b₂ => up h₂ (b₁.trans b₂))
  · dsimp only
    have zs : t.place.size = es.size := by
      simp only [SetTable.fits, Bool.and_eq_true, beq_iff_eq] at h3; exact h3.1
    refine wpAny_bind ?_
    unfold setNext
    refine wpAny_bind (wpAny_setState_of h1 h2 h3 ?_)
    refine wpAny_bind (byText ?_)
    rw [m1]
    simp only [Int.toNat_natCast, Bool.false_eq_true, if_false]
    refine ite_no (fun z => ?_) ?_
    · rw [show (!t.plain && decide (es.size > 1)) = true from z] at m2
      cases m2
    · refine wpAny_bind ?_
      show wpAny _ _ (if (!t.led && !es.isEmpty) = true then unsupported _ else pure ()) _ _ _
      rw [m4, if_neg (by simp)]
      refine wpAny_pure ?_
      rw [below_sl m3 (by (first | lia | omega))]
      have he : es[ord.length]? = none := Array.getElem?_eq_none (by (first | lia | omega))
      rw [he]
      refine wpAny_pure ?_
      dsimp only
      exact wpAny_bind (wpAny_setField_rec h5 (by simp) fun h₁ g₁ b₁ => up h₁ b₁)
theorem draw_perm {α : Type} {Q : List α → Shared → Prop} : ∀ (n : Nat) (xs : List α) (s : Shared), xs.length ≤ n → (∀ l d', l.Perm xs → Q l { s with drawn := d' }) → wpAny (model prog w) A (drawOrder n xs) Q E s
  | 0, xs, s, h, q => by
    have : xs = [] := List.length_eq_zero_iff.mp (by (first | lia | omega))
    subst this
    unfold drawOrder
    exact wpAny_pure (q [] s.drawn (List.Perm.refl _))
  | n + 1, [], s, h, q => by
    unfold drawOrder
    exact wpAny_pure (q [] s.drawn (List.Perm.refl _))
  | n + 1, x :: xs, s, h, q => by
    unfold drawOrder
    refine wpAny_bind ?_
    have ch : ∀ {P : Nat → Shared → Prop}, (∀ i d', i < (x :: xs).length → P i { s with drawn := d' }) → wpAny (model prog w) A (choose .order (x :: xs).length) P E s := fun {P} hp Γ p hΓ => by
      show Sem.wp (model prog w) Γ (.choose .order (x :: xs).length .pure) _ _ p s
      rw [Sem.wp_choose]
      exact ⟨by simp, hp _ _ (Nat.mod_lt _ (by simp))⟩
    refine ch fun i d' hi => ?_
    rw [List.getElem?_eq_getElem hi]
    dsimp only
    refine wpAny_bind (draw_perm n ((x :: xs).eraseIdx i) _ (by rw [List.length_eraseIdx_of_lt hi]; simp only [List.length_cons] at h ⊢; (first | lia | omega)) fun l d'' hl => ?_)
    exact wpAny_pure (q _ d'' ((hl.cons _).trans (erase_perm hi)))
theorem sizeOf_of {a : Addr} {o : Obj} {es : Array (Int × Value)} {ep : Nat} {t : SetTable} {Q : Nat → Shared → Prop} (h1 : s.heap.get? a = some o) (h2 : o.data = .set es ep t) (h3 : t.fits es.size = true) (h : Q es.size s) :
    wpAny (model prog w) A (Builtin.Frozenset.sizeOf a) Q E s := by
  unfold Builtin.Frozenset.sizeOf
  exact wpAny_bind (wpAny_setEntries_of h1 h2 h3 (wpAny_pure h))
theorem iter_r {a : Addr} {σ : List Int} {Q : Value → Shared → Prop} (hS : SetR w s.heap a σ)
    (hQ : ∀ h' d' I T ord ms, SIt w h' I a T ord 0 → PyProof.Rows.IntsAre ord ms → ms.Perm σ → (∀ b o, s.heap.get? b = some o → h'.get? b = some o) → s.heap.objs.size ≤ I → I < h'.objs.size → I ≠ T → (T = a ∨ s.heap.objs.size ≤ T) → Q (.ref I) { s with heap := h', drawn := d' }) :
    wpAny (model prog w) A (pyIter (.ref a)) Q E s := by
  obtain ⟨o, es, ep, t, ho, hx, hd, he, hp, hb, hf, hr, hl⟩ := hS
  have ty : s.TypeIs (.ref a) "set" := ⟨o, ho, hx.1⟩
  have intsA : ∀ l : List (Int × Value), (∀ e ∈ l, En e) → PyProof.Rows.IntsAre (l.map (·.2)) (l.map key) := by
    intro l
    induction l with
    | nil => intro _; exact .nil
    | cons e l ih =>
      intro h
      obtain ⟨k, tk, rfl⟩ := h e (by simp)
      exact .cons k tk (ih fun x hx => h x (by simp [hx]))
  have al : a < s.heap.objs.size := Heap.lt_size ho
  have fin : ∀ (P : Value → Shared → Prop) (s' : Shared) (f : Value), P (.ref s'.heap.objs.size) { s' with heap := s'.heap.push (itO f 0 a es.size ep) } → wpAny (model prog w) A.in1 (newFields "set_iterator" [f, rawInt 0, .ref a, rawInt es.size, rawInt ep]) P E s' := fun P s' f q => by
    unfold newFields
    refine wpAny_newObj_type q (by size_fits)
  refine wpAny_pyIter_slot ty PySem.F.slot_set_iter (wpAny_call_entry PySem.F.slot_set_iter ty entry_it ?_ (PySem.F.args_set_iter_1 _))
  unfold Builtin.«frozenset.__iter__» Builtin.Frozenset.slot0
  refine wpAny_bind (wpAny_bind (m := slotArgs "__iter__" 0 _) (wpAny_pure ?_))
  refine wpAny_pure ?_
  refine wpAny_bind (sizeOf_of ho hd hf ?_)
  refine wpAny_bind ?_
  unfold setDrawn
  refine wpAny_bind (wpAny_setState_of ho hd hf ?_)
  refine wpAny_bind (byText ?_)
  refine wpAny_pure ?_
  cases bt : w.params.followText "set-order" with
  | true =>
    simp only [Bool.not_true, Bool.false_and, Bool.false_eq_true, if_false]
    refine wpAny_bind (wpAny_pure ?_)
    refine wpAny_bind (wpAny_setEpoch_of ho hd hf ?_)
    refine wpAny_bind (fin _ _ _ ?_)
    refine wpAny_pure ⟨_, rfl, "set_iterator", _, ⟨_, Heap.get?_push_size _ rfl, rfl⟩, slot_sn.lookup, ?_⟩
    refine hQ _ s.drawn _ a ((pickOrder (w.params.setOrder a ep) es).toList.map (·.2)) ((pickOrder (w.params.setOrder a ep) es).toList.map key) ⟨o, es, ep, t, _, Heap.get?_push_of_some _ ho, hd, hf, ?_, Heap.get?_push_size _ rfl, .inl ⟨bt, rfl, 0, rfl⟩⟩ ?_ ?_ (fun b o e => Heap.get?_push_of_some _ e) (Nat.le_refl _) (by simp [Heap.push]) (Nat.ne_of_gt al) (.inl rfl)
    · have := (pick_perm (w.params.setOrder a ep) es).length_eq
      simp at this ⊢; (first | lia | omega)
    · exact intsA _ fun e h => he e ((pick_perm _ es).mem_iff.mp h)
    · exact ((pick_perm _ es).map key).trans hp
  | false =>
    simp only [Bool.not_false, Bool.true_and]
    by_cases dr : (!t.plain && decide (es.size > 1)) = true
    · refine ite_yes dr ?_
      refine wpAny_bind (draw_perm es.size (List.range es.size) s (by simp) fun ps d' hps => ?_)
      have lp : ps.length = es.size := by have := hps.length_eq; simpa using this
      have zb := fits_of_scanBound hb
      refine wpAny_bind (wpAny_newTuple ?_ (by simp only [List.length_map]; (first | lia | omega)))
      refine wpAny_bind (wpAny_setEpoch_of (s := { s with drawn := d', heap := _ }) (Heap.get?_push_of_some _ ho) hd hf ?_)
      refine wpAny_bind (fin _ _ _ ?_)
      refine wpAny_pure ⟨_, rfl, "set_iterator", _, ⟨_, Heap.get?_push_size _ rfl, rfl⟩, slot_sn.lookup, ?_⟩
      have pm : (ps.filterMap (es[·]?)).Perm es.toList := (hps.filterMap _).trans (by rw [filterMap_getElem?_range])
      have pe : ps.map (fun p => (es[p]?).map (·.2)) = ((ps.filterMap (es[·]?)).map (·.2)).map some := by
        have hm : ∀ p ∈ ps, p < es.size := fun p h => by simpa using hps.mem_iff.mp h
        clear pm lp hps
        induction ps with
        | nil => rfl
        | cons p ps ih =>
          have hlp : p < es.size := hm p (by simp)
          have hp1 : es[p]? = some (es[p]'hlp) := Array.getElem?_eq_getElem hlp
          rw [List.map_cons, ih fun q h => hm q (by simp [h]), List.filterMap_cons, hp1]
          rfl
      refine hQ _ d' _ s.heap.objs.size ((ps.filterMap (es[·]?)).map (·.2)) ((ps.filterMap (es[·]?)).map key) ⟨o, es, ep, t, _, Heap.get?_push_of_some _ (Heap.get?_push_of_some _ ho), hd, hf, ?_, Heap.get?_push_size _ rfl, .inr (.inl ⟨bt, rfl, ps, Heap.get?_push_of_some _ (Heap.get?_push_size _ rfl), pe⟩)⟩ ?_ ?_ (fun b o e => Heap.get?_push_of_some _ (Heap.get?_push_of_some _ e)) (by simp [Heap.push]) (by simp [Heap.push]) (by simp [Heap.push]) (.inr (Nat.le_refl _))
      · have := pm.length_eq
        simp at this ⊢; (first | lia | omega)
      · exact intsA _ fun e h => he e (pm.mem_iff.mp h)
      · exact (pm.map key).trans hp
    · refine ite_no dr ?_
      refine wpAny_bind (wpAny_pure ?_)
      refine wpAny_bind (wpAny_setEpoch_of ho hd hf ?_)
      refine wpAny_bind (fin _ _ _ ?_)
      refine wpAny_pure ⟨_, rfl, "set_iterator", _, ⟨_, Heap.get?_push_size _ rfl, rfl⟩, slot_sn.lookup, ?_⟩
      refine hQ _ s.drawn _ a (es.toList.map (·.2)) (es.toList.map key) ⟨o, es, ep, t, _, Heap.get?_push_of_some _ ho, hd, hf, by simp, Heap.get?_push_size _ rfl, .inr (.inr ⟨bt, by simpa using dr, hr, hl bt, rfl, rfl⟩)⟩ (intsA _ he) hp (fun b o e => Heap.get?_push_of_some _ e) (Nat.le_refl _) (by simp [Heap.push]) (Nat.ne_of_gt al) (.inl rfl)
theorem walk_r (hh : A.handled = none) {I a T : Addr} (h1 : I ≠ a) (h2 : I ≠ T) (ord : List Value) : WalksS prog w A I [I, a, T] [I] (fun x y => y = x) ord.length (fun i v => ord[i]? = some v) (fun i s => SIt w s.heap I a T ord i) where
  sub := fun b h => by simp at h; simp [h]
  grefl := fun _ => rfl
  gtrans := fun _ _ _ x y => y.trans x
  frame := fun i s h' tk st _ k => st.keep k
  item := fun i s Q E hi st hQ => by
    refine next_item st h1 h2 (List.getElem?_eq_getElem hi) fun h' st' sb => hQ _ _ (List.getElem?_eq_getElem hi) st' ⟨fun b o n e => ?_, rfl, rfl, rfl, Nat.le_refl _⟩
    show h'.get? b = some o
    rw [sb.2 b (by simpa using n)]; exact e
  done := fun s Q E st hQ => next_end hh st fun h' k => hQ _ ⟨fun b o n e => k b o (by simpa using n) e, rfl, rfl, rfl, Nat.le_refl _⟩
  self := fun i s Q E st hQ => by
    obtain ⟨o, es, ep, t, f, _, _, _, _, h5, _⟩ := st
    have ty : s.TypeIs (.ref I) "set_iterator" := ⟨_, h5, rfl⟩
    refine wpAny_pyIter_slot ty slot_si (wpAny_call_entry slot_si ty entry_si ?_ (args_si _))
    show wpAny _ _ (ret (.ref I)) _ _ s
    exact wpAny_pure ⟨_, rfl, "set_iterator", _, ty, slot_sn.lookup, hQ⟩
end
end St

set_option linter.all false
set_option maxRecDepth 100000
namespace St
open PySem PySem.Spec PyProof.Rows
theorem plain_pc : plainId "proto.collect" = true := by decide +kernel
theorem plain_li : plainId "list.__iadd__" = true := by decide +kernel
theorem set_len_of : typeLookup (.type "set") "__len__" = pure (some (.builtin "set.__len__")) := by rw [typeLookup_type, builtinLookup_eq_fast]; kernel_rfl
theorem items_list {ord : List Value} {acc : Array Value} (h : ItemsOf (fun i v => ord[i]? = some v) acc ord.length) : acc = ord.toArray := by
  obtain ⟨h1, h2⟩ := h
  apply Array.ext_getElem?
  intro i
  by_cases hi : i < acc.size
  · rw [Array.getElem?_eq_getElem hi, List.getElem?_toArray]
    exact (h2 i acc[i] (Array.getElem?_eq_getElem hi)).symm
  · rw [Array.getElem?_eq_none (by (first | lia | omega)), Array.getElem?_eq_none]
    simp; (first | lia | omega)
section
variable {prog : Program} {w : World} {A : Around} {E : Value → Shared → Prop} {s : Shared}
theorem hint_set {a : Addr} {Q : Bool → Shared → Prop} (ty : s.TypeIs (.ref a) "set") (h : Q false s) : wpAny (model prog w) A (Builtin.List.listLengthHint (.ref a)) Q E s := by
  unfold Builtin.List.listLengthHint
  refine wpAny_bind (wpAny_specialOf ty set_len_of ?_)
  wp_delta
  refine wpAny_bind (wpAny_isInstance (T := "set") (b := true) ty (by rw [isSubtype_type]; kernel_rfl) ?_)
  show wpAny _ _ (typeOf (.ref a) >>= _) _ _ _
  exact wpAny_bind (wpAny_typeOf ty (wpAny_pure h))
theorem extend_set {R : Result → Shared → Prop} {a S : Addr} {σ : List Int} {res : Value} {c₀ : Nat} (hh : A.handled = none) (hS : SetR w s.heap a σ) (hl : s.heap.get? S = some { cls := .type "list", dict := none, data := .seq #[] c₀, slots := #[] }) (hz : σ.length ≤ sizeLine)
    (hR : ∀ h' d' tk vs ms c', IntsAre vs ms → ms.Perm σ → (∀ b o, b ≠ S → s.heap.get? b = some o → h'.get? b = some o) → h'.get? S = some { cls := .type "list", dict := none, data := .seq vs.toArray c', slots := #[] } →
      R (.ok (.ret res)) { s with heap := h', drawn := d', toks := tk }) :
    wpAny (model prog w) A.in1 (Builtin.List.listExtendWith (.ref S) (.ref a) res)
      (fun fin s' => match fin with | .done f => R (.ok f) s' | .again c' => c'.quiet = true ∧ codeAny (model prog w) A c' R s') (fun e s' => R (.error e) s') s := by
  have ty : s.TypeIs (.ref a) "set" := by obtain ⟨o, es, ep, t, ho, hx, _⟩ := hS; exact ⟨o, ho, hx.1⟩
  have hSa : S ≠ a := fun e => by
    obtain ⟨o, es, ep, t, ho, hx, _⟩ := hS
    rw [← e, hl] at ho; cases ho
    exact absurd hx.1 (by simp)
  have Sl : S < s.heap.objs.size := Heap.lt_size hl
  unfold Builtin.List.listExtendWith
  refine wpAny_bind (wpAny_typeOf ty ?_)
  have e1 : Builtin.List.listSameRef (.ref S) (.ref a) = false := by simp [Builtin.List.listSameRef, hSa]
  have e2 : (Value.type "set" == Value.type "list") = false := by decide
  have e3 : (Value.type "set" == Value.type "tuple") = false := by decide
  simp only [e1, e2, e3, Bool.or_false, Bool.false_eq_true, if_false]
  refine wpAny_bind (iter_r hS fun h' d' I T ord ms hI hi hp hk hge hlt hIT hTa => ?_)
  have al : a < s.heap.objs.size := by obtain ⟨o, q, _⟩ := ty; exact Heap.lt_size q
  have ty' : Shared.TypeIs { s with heap := h', drawn := d' } (.ref a) "set" := by obtain ⟨o, q, z⟩ := ty; exact ⟨o, hk _ _ q, z⟩
  refine wpAny_bind (wpAny_holding (hint_set ty' ?_))
  have lS : h'.get? S = some { cls := .type "list", dict := none, data := .seq #[] c₀, slots := #[] } := hk _ _ hl
  refine ite_yes (by decide) ?_
  refine wpAny_bind (wpAny_rule ?_)
  unfold Builtin.List.listTouch
  refine wpAny_bind (wpAny_bind (listUpdate_at lS rfl ?_))
  have l1 := get?_update_seq lS (fun xs => xs.push Value.none)
  refine listUpdate_at l1 rfl ?_
  have l2 := get?_update_seq l1 (fun xs => xs.pop)
  have ol : ord.length = σ.length := by rw [IntsAre.length hi, hp.length_eq]
  have o2 : ∀ b o, b ≠ S → h'.get? b = some o → ((h'.update S (Obj.mapSeq fun xs => xs.push Value.none)).update S (Obj.mapSeq fun xs => xs.pop)).get? b = some o := fun b o n e => by
    rw [Heap.get?_update_ne _ _ _ _ n, Heap.get?_update_ne _ _ _ _ n]; exact e
  have sI : S ≠ I := Nat.ne_of_lt (Nat.lt_of_lt_of_le Sl hge)
  have sT : S ≠ T := by
    rcases hTa with e | e
    · rw [e]; exact hSa
    · exact Nat.ne_of_lt (Nat.lt_of_lt_of_le Sl e)
  have nf : S ∉ [I, a, T] := by simp [sI, hSa, sT]
  refine wpAny_pure ⟨plainId_quiet PySem.F.plain_extend_loop _, codeAny_extend_loopS (walk_r (A := A.in1) hh (Nat.ne_of_gt (Nat.lt_of_lt_of_le al hge)) hIT ord) (by (first | lia | omega)) _ nf _ ord.length 0 _ #[] _ rfl (Nat.zero_le _) (hI.keep fun b hb o e => o2 b o (fun z => nf (z ▸ hb)) e) l2 (ItemsOf.nil _) fun s' acc' c' hm hS' hacc => ?_⟩
  have ea := items_list hacc
  subst ea
  obtain ⟨h2, g2, d2, t2, os2⟩ := s'
  have eg : g2 = s.gens := hm.gens
  have ed : d2 = d' := hm.drawn
  have eo : os2 = s.os := hm.os
  subst eg; subst ed; subst eo
  refine hR h2 d2 t2 ord ms c' hi hp (fun b o n e => hm.heap b o ?_ (o2 b o n (hk b o e))) hS'
  simp only [List.mem_cons, List.not_mem_nil, or_false, not_or]
  exact ⟨n, Nat.ne_of_lt (Nat.lt_of_lt_of_le (Heap.lt_size e) hge)⟩
theorem collect_set {a : Addr} {σ : List Int} {Q : List Value → Shared → Prop} (hh : A.handled = none) (hS : SetR w s.heap a σ) (hz : σ.length ≤ sizeLine)
    (hQ : ∀ h' d' tk vs ms, IntsAre vs ms → ms.Perm σ → (∀ b o, s.heap.get? b = some o → h'.get? b = some o) → s.heap.objs.size ≤ h'.objs.size → Q vs { s with heap := h', drawn := d', toks := tk }) : wpAny (model prog w) A (collect (.ref a)) Q E s := by
  unfold collect
  refine wpAny_bind (wpAny_runValue (codeAny_builtin entry_proto_collect' ?_))
  rw [Around.under_plainId plain_pc _]
  show wpAny _ _ (newList [] >>= fun v => again (.builtin "list.__iadd__" ⟨[v, .ref a], []⟩)) _ _ s
  refine wpAny_bind (wpAny_newList (wpAny_pure ⟨plainId_quiet plain_li _, codeAny_builtin entry_list_iadd' ?_⟩))
  rw [Around.under_plainId plain_li _]
  show wpAny _ A.in1 (Builtin.List.listExtendWith (.ref s.heap.objs.size) (.ref a) (.ref s.heap.objs.size)) _ _ { s with heap := s.heap.push (seqObj "list" #[] 0) }
  refine extend_set (R := wants (fun v s' => wpAny (model prog w) A (match v with | .ref b => (load b >>= fun o => match o.data with | .seq xs _ => pure xs.toList | _ => unsupported "internal:collect") | _ => unsupported "internal:collect") Q E s') E) (s := { s with heap := s.heap.push (seqObj "list" #[] 0) }) hh (hS.keep fun o e => Heap.get?_push_of_some _ e) (Heap.get?_push_size _ rfl) hz fun h' d' tk vs ms c' hi hp hk hl => ?_
  show wpAny (model prog w) A (load s.heap.objs.size >>= _) Q E _
  refine wpAny_bind (wpAny_load hl ?_)
  refine wpAny_pure ?_
  have := hQ h' d' tk vs ms hi hp (fun b o e => hk b o (Nat.ne_of_lt (Heap.lt_size e)) (Heap.get?_push_of_some _ e)) (Nat.le_of_lt (Heap.lt_size hl))
  simpa using this
theorem sorted_set {a : Addr} {σ : List Int} {Q : Value → Shared → Prop} (hh : A.handled = none) (hS : SetR w s.heap a σ) (h64 : σ.length < 64)
    (hQ : ∀ h' d' tk b vs ns c, IntsAre vs ns → ns.Perm σ → ns.Pairwise (· ≤ ·) → (∀ x o, s.heap.get? x = some o → h'.get? x = some o) → s.heap.objs.size ≤ b → h'.get? b = some (seqObj "list" vs.toArray c) → Q (.ref b) { s with heap := h', drawn := d', toks := tk }) :
    wpAny (model prog w) A (call (.builtin "sorted") [.ref a]) Q E s := by
  refine Calls.call_function_entry kind_sorted plain_sorted entry_sorted (args_sorted1 _) ?_
  unfold Builtin.«sorted»
  refine wpAny_bind (m := checkCount "sorted" 1 1 _) (wpAny_pure (wpAny_bind (collect_set hh hS (by rw [sizeLine_eq]; (first | lia | omega)) fun h' d' tk vs ms hi hp hk hzz => wpAny_bind (wpAny_newList ?_ (by rw [IntsAre.length hi, hp.length_eq, sizeLine_eq]; (first | lia | omega))))))
  have oL : (h'.push (seqObj "list" vs.toArray 0)).get? h'.objs.size = some (seqObj "list" vs.toArray 0) := Heap.get?_push_size _ rfl
  refine wpAny_bind (wpAny_holding (wpAny_call_entry slot_list_sort ⟨_, oL, rfl⟩ entry_list_sort (list_sort_tree oL hi (by rw [IntsAre.length hi, hp.length_eq]; exact h64) fun out ns' a1 a2 a3 => ⟨_, rfl, ?_⟩) (args_list_sort _)))
  obtain ⟨e, he⟩ := sortedHeap_at (out := out) oL
  refine wpAny_pure ⟨_, rfl, hQ _ d' tk _ out.toList ns' e a1 (a2.trans hp) a3 (fun x o q => ?_) ?_ he⟩
  · have q' := Heap.lt_size (hk x o q)
    rw [sortedHeap_old (Nat.ne_of_lt q') (by rw [size_push']; exact Nat.lt_succ_of_lt q'), Heap.get?_push_ne _ _ _ (Nat.ne_of_lt q')]
    exact hk x o q
  · exact hzz
end
end St

set_option Elab.async false
set_option linter.all false
set_option maxRecDepth 100000
namespace St
theorem fm_fold (ns : List Int) : fm (fun i => ns.getD i 0) ns.length = ns.foldl dd [] := by
  unfold fm
  congr 1
  apply List.ext_getElem (by simp)
  intro i h1 h2
  simp [List.getD_eq_getElem?_getD, h2]
end St
namespace L2
open PySem PySem.Spec PyProof.Rows
section
variable {X : Cx} {pins : List (Addr × Obj)} {σ : St} {H : Hp} {s : Shared}
theorem Inv.draw (I : Inv X pins σ H s) (d : Drawn) : Inv X pins σ H { s with drawn := d } := ⟨I.ok, I.os, I.bare, I.base, I.loc, I.cell, I.free, I.freeC, I.pin, I.hok, I.len⟩
end
section
variable {X : Cx}
noncomputable def rSrtI (K : PySem.W.Frag) : List V → Hp → VK → Prop := fun xs H Q => ∃ (l : Addr) (ns : List Int), xs = [.ref l] ∧ SqL K H l (ns.map V.int) ∧ ns.length < 64 ∧ ∀ p (ms : List Int), H p = none → ms.Perm ns → ms.Pairwise (· ≤ ·) → Q (.ref p) (upd H p (.lst (ms.map V.int)))
theorem call_sortedI : CallR X (.builtin "sorted") (rSrtI X.K) := by
  intro pins s σ H xs us Q I r h
  obtain ⟨l, ns, rfl, hl, h64, q⟩ := h
  obtain ⟨u, rfl, ru⟩ := vals1 r
  cases ru
  obtain ⟨vs, rv, pl, hz⟩ := I.list hl
  have lv := rv.length
  rw [List.length_map] at lv hz
  refine sorted_ints pl.isList (intsAre_of rv) (by (first | lia | omega)) fun out ns' a1 a2 a3 => ?_
  obtain ⟨e, he⟩ := sortedAll_at s.heap vs out
  have le : s.heap.objs.size ≤ s.heap.objs.size + 1 := Nat.le_succ _
  refine ⟨.ref _, _, I.laid (t' := s.toks) (fun b o hb => sortedAll_old hb) le (show ObjOk X.prog X.w _ _ _ (.lst (ns'.map V.int)) from ⟨?_, _, e, vals_ints a1, he⟩), rfl, q _ ns' (I.hok.fresh le) a2 a3⟩
  rw [List.length_map, a2.length_eq]; exact hz
variable {p p2 pos pos2 : Pos} {e : Expr} {ta : TA}
noncomputable def tSrtSet (K : PySem.W.Frag) (ta : TA) : TE := fun σ H Q => ta σ H fun vs H1 => ∃ (l : Addr) (ns : List Int), vs = [.ref l] ∧ SqL K H1 l (ns.map V.int) ∧ ns.length < 4000 ∧ (ns.foldl St.dd []).length < 64 ∧
  ∀ p (ms : List Int), H1 p = none → ms.Perm (ns.foldl St.dd []) → ms.Pairwise (· ≤ ·) → Q (.ref p) (upd H1 p (.lst (ms.map V.int)))
theorem boot_set : bootBuiltins "set" = some (.type "set") := by decide +kernel
theorem pe_srtset (hc : X.calm = true) (hg : Gl X "sorted") (hm : X.mg "sorted" = none) (hg2 : Gl X "set") (hm2 : X.mg "set" = none) (ha : PA X [e] ta)
    (he : starEach [Expr.Call (.Name "set" p2) [e] [] pos2] X.env = [(false, eval (Expr.Call (.Name "set" p2) [e] [] pos2) X.env)] := by rfl) (he2 : starEach [e] X.env = [(false, eval e X.env)] := by rfl) :
    PE X (.Call (.Name "sorted" p) [.Call (.Name "set" p2) [e] [] pos2] [] pos) (tSrtSet X.K ta) := by
  intro pins s σ H Q I h
  refine wpAny_Call_Name_kw (ld_blt I hg hm PyProof.Rows.boot_sorted ?_)
  refine PyProof.Rows.callWith_builtin1 ?_ he rfl
  rw [he]
  show wpAny _ _ (spliced [(false, eval (Expr.Call (.Name "set" p2) [e] [] pos2) X.env)]) _ _ _
  refine Calls.spliced_cons ?_
  refine wpAny_Call_Name_kw (ld_blt I hg2 hm2 boot_set ?_)
  refine PyProof.Rows.callWith_type1 (thn (ha pos2 pins s σ H _ I h) fun us s1 ⟨vs, H1, I1, r1, q1⟩ => ?_) he2 rfl
  obtain ⟨l, ns, rfl, hx, h4, h64, q⟩ := q1
  obtain ⟨u, rfl, rx⟩ := vals1 r1
  cases rx
  obtain ⟨its, rv, pl, hz⟩ := I1.list hx
  have hlen := rv.length
  rw [List.length_map] at hlen
  have hs : its.toArray.size = ns.length := by rw [List.size_toArray]; exact hlen.symm
  refine St.call_set_r (I1.ok.hd hc) pl.isList (ns := ns) (intsAre_of rv) (by rw [hs]; unfold scanBound; (first | lia | omega)) fun h' tk hS hk => ?_
  rw [hs, St.fm_fold] at hS
  refine Calls.spliced_nil ?_
  have lt := (show s1.heap.objs.size < h'.objs.size from by obtain ⟨o, _, _, _, q, _⟩ := hS; exact Heap.lt_size q)
  refine St.sorted_set (s := { s1 with heap := h', toks := tk }) (I1.ok.hd hc) hS h64 fun h2 d2 t2 b vs ms c a1 a2 a3 a4 a5 a6 => ?_
  have le : s1.heap.objs.size ≤ b := Nat.le_trans (Nat.le_of_lt lt) a5
  refine ⟨.ref b, _, (I1.laid (h' := h2) (t' := t2) (fun x o z => a4 x o (hk x o (Heap.lt_size z) z)) le (show ObjOk X.prog X.w _ h2 _ (.lst (ms.map V.int)) from ⟨?_, _, c, vals_ints a1, a6⟩)).draw d2, rfl, q _ ms (I1.hok.fresh le) a2 a3⟩
  rw [List.length_map, a2.length_eq, sizeLine_eq]; (first | lia | omega)
noncomputable def tLenSet (K : PySem.W.Frag) (ta : TA) : TE := fun σ H Q => ta σ H fun vs H1 => ∃ (l : Addr) (ns : List Int), vs = [.ref l] ∧ SqL K H1 l (ns.map V.int) ∧ ns.length < 4000 ∧ Q (.int ((ns.foldl St.dd []).length : Nat)) H1
theorem pe_lenset (hc : X.calm = true) (hg : Gl X "len") (hm : X.mg "len" = none) (hg2 : Gl X "set") (hm2 : X.mg "set" = none) (ha : PA X [e] ta)
    (he : starEach [Expr.Call (.Name "set" p2) [e] [] pos2] X.env = [(false, eval (Expr.Call (.Name "set" p2) [e] [] pos2) X.env)] := by rfl) (he2 : starEach [e] X.env = [(false, eval e X.env)] := by rfl) :
    PE X (.Call (.Name "len" p) [.Call (.Name "set" p2) [e] [] pos2] [] pos) (tLenSet X.K ta) := by
  intro pins s σ H Q I h
  refine wpAny_Call_Name_kw (ld_blt I hg hm PySem.boot_len ?_)
  refine PyProof.Rows.callWith_builtin1 ?_ he rfl
  rw [he]
  show wpAny _ _ (spliced [(false, eval (Expr.Call (.Name "set" p2) [e] [] pos2) X.env)]) _ _ _
  refine Calls.spliced_cons ?_
  refine wpAny_Call_Name_kw (ld_blt I hg2 hm2 boot_set ?_)
  refine PyProof.Rows.callWith_type1 (thn (ha pos2 pins s σ H _ I h) fun us s1 ⟨vs, H1, I1, r1, q1⟩ => ?_) he2 rfl
  obtain ⟨l, ns, rfl, hx, h4, q⟩ := q1
  obtain ⟨u, rfl, rx⟩ := vals1 r1
  cases rx
  obtain ⟨its, rv, pl, hz⟩ := I1.list hx
  have hlen := rv.length
  rw [List.length_map] at hlen
  have hs : its.toArray.size = ns.length := by rw [List.size_toArray]; exact hlen.symm
  refine St.call_set_r (I1.ok.hd hc) pl.isList (ns := ns) (intsAre_of rv) (by rw [hs]; unfold scanBound; (first | lia | omega)) fun h' tk hS hk => ?_
  rw [hs, St.fm_fold] at hS
  refine Calls.spliced_nil ?_
  obtain ⟨o, es, ep, t, ho, hx', hd, he', hp, hb, hf, _, _⟩ := hS
  have ez : es.size = (ns.foldl St.dd []).length := by have := hp.length_eq; simpa using this
  refine call_len_set (s := { s1 with heap := h', toks := tk }) ho hx' hd hf (by unfold scanBound at hb; (first | lia | omega)) ⟨.int ((ns.foldl St.dd []).length : Nat), H1, I1.kept fun x o z => hk x o (Heap.lt_size z) z, ⟨_, by rw [ez]⟩, q⟩
end
end L2

set_option Elab.async false
set_option linter.all false
set_option maxRecDepth 100000
namespace L2
open PySem PySem.Spec PyProof.Rows
noncomputable def Itz (K : PySem.W.Frag) (a b : Addr) : It :=
  ⟨fun i H => ∃ xs ys x y, SqL K H a xs ∧ SqL K H b ys ∧ xs[i]? = some x ∧ ys[i]? = some y, fun i H v H' => ∃ t x y, H t = none ∧ H' = upd H t (.tup [x, y]) ∧ v = .ref t ∧ (∀ xs, SqL K H a xs → xs[i]? = some x) ∧ ∀ ys, SqL K H b ys → ys[i]? = some y,
    fun i H => ∃ xs ys, SqL K H a xs ∧ SqL K H b ys ∧ (xs.length ≤ i ∨ ys.length ≤ i)⟩
noncomputable def ZSt (z TI TO i1 i2 a b : Addr) (i : Nat) (h : Heap) : Prop := IsZip h z TI TO .none ∧ IsPair h TI (.ref i1) (.ref i2) ∧ (∃ x y, IsPair h TO x y) ∧ h.IsListIter i1 a i ∧ h.IsListIter i2 b i
theorem apart_zip {h : Heap} {z TI TO i1 i2 a b : Addr} {xs ys : Array Value} {i : Nat} {f x y : Value} (n1 : TI ≠ z) (n2 : TO ≠ z) (n3 : i1 ≠ z) (n4 : i2 ≠ z) (n5 : TI ≠ TO) (n6 : TI ≠ i1) (n7 : TI ≠ i2) (n8 : TO ≠ i1) (n9 : TO ≠ i2) (n10 : i1 ≠ i2)
    (h1 : IsZip h z TI TO f) (h3 : IsPair h TO x y) (h4 : h.IsListIter i1 a i) (h5 : h.IsListIter i2 b i) (la : h.IsList a xs) (lb : h.IsList b ys) : ZipApart z TI TO i1 i2 a b := by
  obtain ⟨o4, e4, c4, _⟩ := h4
  obtain ⟨o5, e5, c5, _⟩ := h5
  have ne : ∀ {c : Addr} {l : Addr} {zs : Array Value} {o : Obj}, h.IsList l zs → h.get? c = some o → o.cls ≠ .type "list" → l ≠ c := fun hl e n q => by
    obtain ⟨o', e', c', _⟩ := hl
    rw [q, e] at e'; cases e'; exact n c'
  exact ⟨n1, n2, n3, n4, n5, n6, n7, n8, n9, n10, ne la h1 (by show Value.type "zip" ≠ Value.type "list"; decide), ne la h3 (by show Value.type "tuple" ≠ Value.type "list"; decide), ne la e4 (by rw [c4]; decide), ne la e5 (by rw [c5]; decide), ne lb h1 (by show Value.type "zip" ≠ Value.type "list"; decide), ne lb h3 (by show Value.type "tuple" ≠ Value.type "list"; decide), ne lb e4 (by rw [c4]; decide), ne lb e5 (by rw [c5]; decide)⟩
theorem turn_zip {P : Program} {w : World} {K : PySem.W.Frag} {es : List Expr} {k : Nat} {tp : Pos} {z TI TO i1 i2 a b : Addr} (n1 : TI ≠ z) (n2 : TO ≠ z) (n3 : i1 ≠ z) (n4 : i2 ≠ z) (n5 : TI ≠ TO) (n6 : TI ≠ i1) (n7 : TI ≠ i2) (n8 : TO ≠ i1) (n9 : TO ≠ i2) (n10 : i1 ≠ i2) :
    Turn P w K (.Tuple es k tp) (Itz K a b) [z, TI, TO, i1, i2] z (fun i h => ZSt z TI TO i1 i2 a b i h) where
  mem := by simp
  obj := fun i h st c hc => by
    obtain ⟨h1, h2, ⟨x, y, h3⟩, ⟨o4, h4, _, d4⟩, o5, h5, _, d5⟩ := st
    simp only [List.mem_cons, List.not_mem_nil, or_false] at hc
    rcases hc with rfl | rfl | rfl | rfl | rfl
    · exact ⟨_, h1, fun v q => by have q' : Data.fields _ = Data.cell v := q; cases q'⟩
    · exact ⟨_, h2, fun v q => by have q' : Data.seq _ _ = Data.cell v := q; cases q'⟩
    · exact ⟨_, h3, fun v q => by have q' : Data.seq _ _ = Data.cell v := q; cases q'⟩
    · exact ⟨o4, h4, fun v q => by rw [d4] at q; cases q⟩
    · exact ⟨o5, h5, fun v q => by rw [d5] at q; cases q⟩
  keep := fun i h h' st k => by
    obtain ⟨h1, h2, ⟨x, y, h3⟩, h4, h5⟩ := st
    exact ⟨k z (by simp) _ h1, k TI (by simp) _ h2, ⟨x, y, k TO (by simp) _ h3⟩, h4.at fun o q => k i1 (by simp) o q, h5.at fun o q => k i2 (by simp) o q⟩
  item := by
    intro X hP hw hK hc i pins s σ H E I hf st hg
    subst hP hw hK
    obtain ⟨xs, ys, x, y, hxs, hys, hx, hy⟩ := hg
    obtain ⟨its, rv, p, hz⟩ := I.list hxs
    obtain ⟨jts, rw', p', hz'⟩ := I.list hys
    obtain ⟨u, hu, ru⟩ := rv.get hx
    obtain ⟨v, hv, rv'⟩ := rw'.get hy
    obtain ⟨h1, h2, ⟨x0, y0, h3⟩, h4, h5⟩ := st
    obtain ⟨oa, ha, ca, _⟩ := id p.isList
    obtain ⟨ob, hb, cb, _⟩ := id p'.isList
    have D := apart_zip n1 n2 n3 n4 n5 n6 n7 n8 n9 n10 h1 h3 h4 h5 p.isList p'.isList
    refine wpAny_pyNext_zip_item D h1 h2 h3 h4 h5 p.isList p'.isList (x := u) (y := v) (by simpa using hu) (by simpa using hv) fun h' g1 g2 g3 g4 g5 g6 g7 => ⟨_, rfl, wpAny_letOwnedTupleGo_zip g1 fun h'' g1' sb => ?_⟩
    have hn : H s.heap.objs.size = none := I.hok.fresh (Nat.le_refl _)
    have tz : s.heap.objs.size ≠ z := Nat.ne_of_gt (Heap.lt_size h1)
    have keep : ∀ b o, b ∉ [z, TI, TO, i1, i2] → s.heap.get? b = some o → h''.get? b = some o := fun b o q e => by
      simp only [List.mem_cons, List.not_mem_nil, or_false, not_or] at q
      rw [sb.2 b q.1]
      exact g7 b o q.1 q.2.2.1 q.2.2.2.1 q.2.2.2.2 e
    have nfp : ∀ b, H b ≠ none → b ∉ [z, TI, TO, i1, i2] := fun b q e => q (hf b e).1
    have new : ObjOk X.prog X.w (upd H s.heap.objs.size (.tup [x, y])) h'' s.heap.objs.size (.tup [x, y]) := by
      refine ⟨by simp only [List.length_cons, List.length_nil]; rw [sizeLine_eq]; decide, [u, v], .cons ru (.cons rv' .nil), ⟨_, (sb.2 _ tz).trans g5, rfl, 0, rfl⟩⟩
    have I1 : Inv X pins σ (upd H s.heap.objs.size (.tup [x, y])) { s with heap := h'' } := by
      refine I.call (ch := [z, TI, TO, i1, i2]) (g' := s.gens) (d' := s.drawn) (t' := s.toks) ?_ (I.hok.more (fun b v q e => keep b v (nfp b q) e) hn new) I.bare fun b hb => ?_
      · refine Un.track (H := H) ⟨fun b o q n _ hx => keep b o hx q, fun b o q n _ hx => ⟨o.slots, keep b o hx q⟩, fun _ _ _ n _ => n, fun b o q hx => ⟨o, keep b o hx q⟩, fun _ _ q => q, fun _ _ _ q => q, fun b ps q => ⟨#[], by rw [q]; simp⟩⟩ hn (Heap.get?_none_of_le (Nat.le_refl _))
      · obtain ⟨f0, f1, f2, f3, f4, f5⟩ := hf b hb
        exact ⟨f3, f1, f4, f5⟩
    refine ⟨.ref s.heap.objs.size, _, I1, rfl, ⟨s.heap.objs.size, x, y, hn, rfl, rfl, fun zs hy' => by rw [I.list_inj hy' hxs]; exact hx, fun zs hy' => by rw [I.list_inj hy' hys]; exact hy⟩, ⟨g1', ?_, ⟨u, v, ?_⟩, ?_, ?_⟩, fun b hb => ?_⟩
    · show h''.get? TI = _
      rw [sb.2 TI n1]
      exact g7 TI _ n1 n5 n6 n7 h2
    · show h''.get? TO = _
      rw [sb.2 TO n2]; exact g2
    · exact g3.at fun o q => by rw [sb.2 i1 n3]; exact q
    · exact g4.at fun o q => by rw [sb.2 i2 n4]; exact q
    · have lt : b < s.heap.objs.size := by
        simp only [List.mem_cons, List.not_mem_nil, or_false] at hb
        rcases hb with rfl | rfl | rfl | rfl | rfl
        · exact Heap.lt_size h1
        · exact Heap.lt_size h2
        · exact Heap.lt_size h3
        · obtain ⟨o, q, _⟩ := h4; exact Heap.lt_size q
        · obtain ⟨o, q, _⟩ := h5; exact Heap.lt_size q
      rw [upd_ne (Nat.ne_of_lt lt)]
      exact (hf b hb).1
  done := by
    intro X hP hw hK hc i pins s σ H E I hf st hg
    subst hP hw hK
    obtain ⟨xs, ys, hxs, hys, hx⟩ := hg
    obtain ⟨its, rv, p, hz⟩ := I.list hxs
    obtain ⟨jts, rw', p', hz'⟩ := I.list hys
    obtain ⟨h1, h2, ⟨x0, y0, h3⟩, h4, h5⟩ := st
    have D := apart_zip n1 n2 n3 n4 n5 n6 n7 n8 n9 n10 h1 h3 h4 h5 p.isList p'.isList
    have l1 := rv.length
    have l2 := rw'.length
    refine wpAny_pyNext_zip_end (I.ok.hd hc) D h1 h2 h3 h4 h5 p.isList p'.isList (by simp; (first | lia | omega)) fun h' k => ⟨rfl, ?_⟩
    have keep : ∀ b o, b ∉ [z, TI, TO, i1, i2] → s.heap.get? b = some o → h'.get? b = some o := fun b o q e => by
      simp only [List.mem_cons, List.not_mem_nil, or_false, not_or] at q
      exact k b o q.1 q.2.2.1 q.2.2.2.1 q.2.2.2.2 e
    have nfp : ∀ b, H b ≠ none → b ∉ [z, TI, TO, i1, i2] := fun b q e => q (hf b e).1
    refine I.call (ch := [z, TI, TO, i1, i2]) (g' := s.gens) (d' := s.drawn) (t' := s.toks) ⟨fun b o q n _ hx => keep b o hx q, fun b o q n _ hx => ⟨o.slots, keep b o hx q⟩, fun _ _ _ n _ => n, fun b o q hx => ⟨o, keep b o hx q⟩, fun _ _ q => q, fun _ _ _ q => q, fun b ps q => ⟨#[], by rw [q]; simp⟩⟩ (fun b u e => (I.hok b u e).stay (fun c v hc q => keep c v (nfp c ?_) q) (fun _ q => q) fun _ _ q => q) I.bare fun b hb => ?_
    · rcases hc with q | q
      · rw [q, e]; intro y; cases y
      · rw [q]; intro y; cases y
    · obtain ⟨f0, f1, f2, f3, f4, f5⟩ := hf b hb
      exact ⟨f3, f1, f4, f5⟩
  self := fun _ _ _ _ _ st h => wpAny_pyIter_zip st.1 h
section
variable {X : Cx}
noncomputable def iZip (K : PySem.W.Frag) (ta : TA) : TI := fun σ H R => ta σ H fun vs H1 => ∃ a b, vs = [.ref a, .ref b] ∧ (∃ xs, SqL K H1 a xs) ∧ (∃ ys, SqL K H1 b ys) ∧ R (Itz K a b) H1
theorem boot_zip : bootBuiltins "zip" = some (.type "zip") := by decide +kernel
theorem pi_zip {a b : Expr} {ta : TA} {p pos : Pos} {es : List Expr} {k : Nat} {tp : Pos} (hg : Gl X "zip") (hm : X.mg "zip" = none) (ha : PA X [a, b] ta) (hs : starEach [a, b] X.env = (false, eval a X.env) :: starEach [b] X.env := by rfl)
    (hpl : (backTo pos (starEach [b] X.env)).any (·.1) = false := by rfl) : PI X (.Tuple es k tp) (.Call (.Name "zip" p) [a, b] [] pos) (iZip X.K ta) := by
  intro pins s σ H R I h
  refine Call_ (ld_blt I hg hm boot_zip (PyProof.Rows.callWith_type1 (thn (ha pos pins s σ H _ I h) fun us s1 ⟨vs, H1, I1, r1, q1⟩ => ?_) hs hpl))
  obtain ⟨l, m, rfl, ⟨xs, hx⟩, ⟨ys, hy⟩, q⟩ := q1
  cases r1 with
  | cons r1 r2 =>
    cases r2 with
    | cons r2 r3 =>
      cases r3
      cases r1
      cases r2
      obtain ⟨its, rv, pl, hz⟩ := I1.list hx
      obtain ⟨jts, rw', pl', hz'⟩ := I1.list hy
      refine call_zip_2 pl.isList pl'.isList fun h' g1 g2 g3 g4 g5 g6 g7 => ?_
      have I2 : Inv X pins σ H1 { s1 with heap := h' } := I1.kept (t' := s1.toks) g7
      refine wpAny_pyIter_zip g1 ?_
      refine ⟨s1.heap.objs.size + 4, [s1.heap.objs.size + 4, s1.heap.objs.size + 2, s1.heap.objs.size + 3, s1.heap.objs.size, s1.heap.objs.size + 1], _, _, H1, rfl, I2, turn_zip (a := l) (b := m) (by simp) (by simp) (by simp) (by simp) (by simp) (by simp) (by simp) (by simp) (by simp) (by simp), ⟨g1, g2, ⟨_, _, g3⟩, g4, g5⟩, fun b hb => ?_, q⟩
      simp only [List.mem_cons, List.not_mem_nil, or_false] at hb
      have le : s1.heap.objs.size ≤ b := by rcases hb with rfl | rfl | rfl | rfl | rfl <;> first | exact Nat.le_refl _ | exact Nat.le_add_right _ _
      exact I1.fpOk le (I1.hok.fresh le)
end
end L2

set_option Elab.async false
set_option linter.all false
set_option maxRecDepth 100000
namespace L2
open PySem PySem.Spec PyProof.Rows
theorem pick_rev (its : List Value) : slicePick its.toArray none none (some (-1)) = its.reverse.toArray := by
  have e : sliceBounds none none (some (-1)) its.toArray.size = ((its.length : Int) - 1, -1, -1) := by simp [sliceBounds]
  unfold slicePick
  rw [e]
  have r : sliceRange ((its.length : Int) - 1) (-1) (-1) = (List.range its.length).map fun k => its.length - 1 - k := by
    unfold sliceRange
    simp only
    rw [if_neg (by decide)]
    have c : (if ((its.length : Int) - 1) > -1 then ((its.length : Int) - 1 - -1 - -1 - 1) / (- -1) else 0).toNat = its.length := by
      rw [show (- -1 : Int) = 1 by decide, Int.ediv_one]
      split
      · (first | lia | omega)
      · (first | lia | omega)
    rw [c]
    apply List.map_congr_left
    intro k hk
    have := List.mem_range.mp hk
    (first | lia | omega)
  rw [r]
  congr 1
  apply List.ext_getElem?
  intro i
  have key : ∀ (l : List Nat), (∀ k ∈ l, k < its.length) → (l.filterMap (its.toArray[·]?)) = l.map fun k => its.getD k Value.none := by
    intro l
    induction l with
    | nil => intro _; rfl
    | cons k l ih =>
      intro h
      have hk := h k (by simp)
      have q : its.toArray[k]? = some (its.getD k Value.none) := by simp [List.getD_eq_getElem?_getD, hk]
      rw [List.filterMap_cons, q, ih fun x hx => h x (by simp [hx])]
      rfl
  rw [key _ fun k hk => by obtain ⟨j, hj, rfl⟩ := List.mem_map.mp hk; have := List.mem_range.mp hj; (first | lia | omega)]
  by_cases hi : i < its.length
  · rw [List.getElem?_reverse hi]
    simp [List.getElem?_map, hi, List.getD_eq_getElem?_getD]
    rw [List.getElem?_eq_getElem (by (first | lia | omega))]
    rfl
  · rw [List.getElem?_eq_none (by simp; (first | lia | omega)), List.getElem?_eq_none (by simp; (first | lia | omega))]
section
variable {X : Cx} {e : Expr} {te : TE} {st : Expr} {ts : TO} {pos p2 : Pos}
noncomputable def tRevS (K : PySem.W.Frag) (te : TE) (ts : TO) : TE := fun σ H Q => te σ H fun x H1 => ts σ H1 fun o H2 => o = some (-1) ∧ ∃ a xs, x = .ref a ∧ SqL K H2 a xs ∧ ∀ p, H2 p = none → Q (.ref p) (upd H2 p (.lst xs.reverse))
theorem pe_revS (he : PE X e te) (hs : PO X (some st) ts) : PE X (.Subscript e (.Slice none none (some st) p2) pos) (tRevS X.K te ts) := by
  intro pins s σ H Q I h
  refine Subscript_ (thn (he pins s σ H _ I h) fun v s1 ⟨x, H1, I1, r1, q1⟩ => ?_)
  refine wpAny_Slice ?_
  rw [evalPart_none]
  refine wpAny_pure (wpAny_pure (thn (hs pins s1 σ H1 _ I1 q1) fun vs s2 ⟨o, H2, I2, ps, q2⟩ => ?_))
  obtain ⟨rfl, a, xs, rfl, hx, q⟩ := q2
  cases r1
  have I3 : Inv X pins σ H2 { s2 with heap := s2.heap.push { cls := .type "slice", data := .fields #[.none, .none, vs] } } := I2.kept (t' := s2.toks) fun b ob z => Heap.get?_push_of_some _ z
  obtain ⟨its, r, ht, hz⟩ := I3.list hx
  have hlen := r.length
  show wpAny (model X.prog X.w) X.A (subscriptTail e (.Slice none none (some st) p2) (.ref a) (.ref s2.heap.objs.size)) (EP X pins σ Q) X.xe { s2 with heap := s2.heap.push { cls := .type "slice", data := .fields #[.none, .none, vs] } }
  refine tail_any (ops := [.ref a, .ref s2.heap.objs.size]) ht.isList.typeIs slot_list_getitem.lookup ?_ (by with_unfolding_all rfl)
  refine wpAny_getItem_list_slice ht.isList (Heap.IsSliceOf.new ..) .none .none ps (by simp) ?_ (by rw [List.size_toArray]; (first | lia | omega))
  rw [pick_rev]
  exact ⟨.ref _, _, I3.laid (t' := s2.toks) (o := .lst xs.reverse) (fun b ob q => Heap.get?_push_of_some _ q) (Nat.le_refl _) ⟨by rw [List.length_reverse]; exact hz, _, 0, r.reverse, Heap.get?_push_size _ rfl⟩, rfl, q _ (I3.hok.fresh (Nat.le_refl _))⟩
end
section
variable {prog : Program} {w : World} {A : Around} {R : Result → Shared → Prop} {s : Shared}
theorem rm_loop {l : Addr} {its : Array Value} {n : Nat} {x : Value} {e : Nat → Bool} {j : Nat} (hl : s.heap.get? l = some { cls := .type "list", dict := none, data := .seq its n, slots := #[] }) (he : ∀ i (h : i < its.size), SeqAt.EqAt A.in1 s its[i] x (e i)) (hj : j < its.size) (hit : e j = true)
    (hno : ∀ i, i < j → e i = false) (hz : its.size ≤ sizeLine) (h : R (.ok (.ret .none)) { s with heap := s.heap.update l (Obj.mapSeq fun xs => xs.eraseIdxIfInBounds j) }) :
    ∀ d i : Nat, j - i = d → i ≤ j → codeAny (model prog w) A (.builtin "list.remove.loop" ⟨[.ref l, x, rawInt i], []⟩) R s := by
  intro d
  induction d with
  | zero =>
    intro i hd hi
    have e0 : i = j := by (first | lia | omega)
    subst e0
    refine codeAny_builtin MeetsSeq.entry_remove_loop ?_
    rw [Around.under_plainId MeetsSeq.plain_remove_loop _]
    show wpAny _ A.in1 (Builtin.List.listItems (.ref l) >>= _) _ _ s
    refine wpAny_bind ?_
    unfold Builtin.List.listItems
    refine wpAny_bind (wpAny_seqItems hl rfl (wpAny_pure ?_))
    have g : its[((i : Nat) : Int).toNat]? = some its[i] := by simp [hj]
    rw [g]
    dsimp only
    refine wpAny_bind (he i hj prog w _ _ ?_)
    rw [hit]
    simp only [if_true, Int.toNat_natCast]
    have hz' : (its.eraseIdxIfInBounds i).size ≤ sizeLine + 1 := by
      have := MeetsSeq.size_erased its i
      (first | lia | omega)
    refine wpAny_bind (wpAny_updateSeq hl rfl ?_ hz hz')
    exact wpAny_pure h
  | succ d ih =>
    intro i hd hi
    have hlt : i < its.size := by (first | lia | omega)
    refine codeAny_builtin MeetsSeq.entry_remove_loop ?_
    rw [Around.under_plainId MeetsSeq.plain_remove_loop _]
    show wpAny _ A.in1 (Builtin.List.listItems (.ref l) >>= _) _ _ s
    refine wpAny_bind ?_
    unfold Builtin.List.listItems
    refine wpAny_bind (wpAny_seqItems hl rfl (wpAny_pure ?_))
    have g : its[((i : Nat) : Int).toNat]? = some its[i] := by simp [hlt]
    rw [g]
    dsimp only
    refine wpAny_bind (he i hlt prog w _ _ ?_)
    rw [hno i (by (first | lia | omega))]
    simp only [Bool.false_eq_true, if_false]
    rw [show ((i : Int) + 1) = ((i + 1 : Nat) : Int) by (first | lia | omega)]
    exact wpAny_pure ⟨plainId_quiet MeetsSeq.plain_remove_loop _, ih (i + 1) (by (first | lia | omega)) (by (first | lia | omega))⟩
end
theorem eraseIdx_vals : ∀ {xs : List V} {us : List Value} {j : Nat}, Vals xs us → Vals (xs.eraseIdx j) (us.eraseIdx j)
  | _, _, _, .nil => .nil
  | _, _, 0, .cons _ r => r
  | _, _, j + 1, .cons a r => .cons a (eraseIdx_vals r)
theorem first_hit (e : Nat → Bool) : ∀ (n k : Nat), k ≤ n → e k = true → ∃ j, j ≤ k ∧ e j = true ∧ ∀ i, i < j → e i = false := by
  intro n
  induction n with
  | zero => intro k hk h; exact ⟨k, Nat.le_refl _, h, fun i hi => by (first | lia | omega)⟩
  | succ n ih =>
    intro k hk h
    by_cases q : ∃ i, i < k ∧ e i = true
    · obtain ⟨i, hi, hei⟩ := q
      obtain ⟨j, h1, h2, h3⟩ := ih i (by (first | lia | omega)) hei
      exact ⟨j, by (first | lia | omega), h2, h3⟩
    · refine ⟨k, Nat.le_refl _, h, fun i hi => ?_⟩
      cases z : e i with
      | false => rfl
      | true => exact absurd ⟨i, hi, z⟩ q
section
variable {X : Cx}
noncomputable def rRemove : V → List V → Hp → VK → Prop := fun x vs H Q => ∃ l xs t ps, x = .ref l ∧ vs = [t] ∧ H l = some (.lst xs) ∧ PcsAt H xs ps ∧ t ∈ xs ∧ ∀ j, j < xs.length → Q .non (upd H l (.lst (xs.eraseIdx j)))
theorem mt_remove (hu : X.A.units + 64 < cLine) : MtM X "list.remove" rRemove := by
  intro pins s σ H x vs v us Q I rx rv h
  obtain ⟨l, xs, t, ps, rfl, rfl, hH, hP, ht, q⟩ := h
  cases rx
  obtain ⟨u, rfl, ru⟩ := rv.one
  obtain ⟨z, its, n, r, hl, e⟩ := I.lstM hH
  have tup : ∀ (i : Nat) (w : Value), i < xs.length → RelV (xs.getD i .non) w → ∃ b ta tc, xs.getD i .non = .ref b ∧ w = .ref b ∧ s.heap.IsTuple b #[.int (ps.getD i (0, 0)).1 ta, .int (ps.getD i (0, 0)).2 tc] := fun i w hi hr => by
    have hx : xs[i]? = some (xs.getD i .non) := by simp [List.getD_eq_getElem?_getD, hi]
    obtain ⟨pc, hpc, p, e1, e2⟩ := paired_get hP hx
    have ep : ps.getD i (0, 0) = pc := by simp [List.getD_eq_getElem?_getD, hpc]
    rw [e1] at hr ⊢
    cases hr
    obtain ⟨zs, rz, ⟨o, ho, hc, m, hd⟩, _⟩ := I.tuple (SqT.of e2)
    cases rz with
    | cons r1 r2 =>
      cases r2 with
      | cons r2 r3 =>
        cases r3
        obtain ⟨ta, rfl⟩ := r1
        obtain ⟨tc, rfl⟩ := r2
        exact ⟨p, ta, tc, rfl, rfl, o, ho, hc, m, by rw [ep]; exact hd⟩
  obtain ⟨k, hk, ek⟩ := List.getElem_of_mem ht
  have ek' : xs.getD k .non = t := by rw [List.getD_eq_getElem?_getD, List.getElem?_eq_getElem hk]; exact ek
  obtain ⟨b, ta, tc, ebt, rfl, hb⟩ := tup k u hk (by rw [ek']; exact ru)
  generalize ps.getD k (0, 0) = pk at hb
  let e' : Nat → Bool := fun i => decide (xs.getD i .non = .ref b) || ((List.range 2).all (fun j => if j = 0 then (ps.getD i (0, 0)).1 == pk.1 else (ps.getD i (0, 0)).2 == pk.2) && (2 == 2))
  have he' : ∀ i (h : i < its.toArray.size), SeqAt.EqAt X.A.in1 s its.toArray[i] (.ref b) (e' i) := fun i hi => by
    have hi' : i < xs.length := by rw [hl]; simpa using hi
    have hi2 : i < its.length := by simpa using hi
    have hx : xs[i]? = some (xs.getD i .non) := by simp [List.getD_eq_getElem?_getD, hi']
    obtain ⟨w', hw, rw'⟩ := r.get hx
    have ew : its.toArray[i] = w' := by
      rw [List.getElem?_eq_getElem hi2] at hw
      simpa using hw
    obtain ⟨b', ta', tc', e1, rfl, hb'⟩ := tup i w' hi' rw'
    rw [ew]
    show SeqAt.EqAt X.A.in1 s (.ref b') (.ref b) (decide (xs.getD i .non = .ref b) || _)
    by_cases eb : b' = b
    · subst eb
      rw [e1, show decide (V.ref b' = V.ref b') = true by simp, Bool.true_or]
      exact SeqAt.EqAt.same _
    · rw [e1, show decide (V.ref b' = V.ref b) = false from decide_eq_false fun q => eb (by injection q), Bool.false_or]
      refine SeqAt.EqAt.of_refs eb (SeqAt.RcAt.tuples (e := fun j => if j = 0 then (ps.getD i (0, 0)).1 == pk.1 else (ps.getD i (0, 0)).2 == pk.2) hb' hb (show X.A.units + 1 < cLine by (first | lia | omega)) fun j h1 h2 => ?_)
      match j, h1, h2 with
      | 0, _, _ => exact (MeetsSeq.EqGives.int _ _ ta' ta).at _ _
      | 1, _, _ => exact (MeetsSeq.EqGives.int _ _ tc' tc).at _ _
  have hk1 : e' k = true := by
    show (decide (xs.getD k .non = .ref b) || _) = true
    rw [ebt, show decide (V.ref b = V.ref b) = true by simp, Bool.true_or]
  obtain ⟨j, j1, j2, j3⟩ := first_hit e' k k (Nat.le_refl _) hk1
  have hj : j < its.toArray.size := by rw [List.size_toArray, ← hl]; (first | lia | omega)
  refine wpAny_call (codeAny_call_builtin F.slot_list_remove.plain F.entry_list_remove (F.slot_list_remove.check _ _ _ _ _ _ _ _ ⟨_, e, rfl⟩ (F.args_list_remove_2 _ _) ?_))
  refine wpAny_bind (m := selfAndOne "list.remove" _) (wpAny_pure ?_)
  refine wpAny_pure ⟨plainId_quiet MeetsSeq.plain_remove_loop _, rm_loop (j := j) e he' hj j2 j3 (by rw [List.size_toArray, ← hl]; exact z) ?_ j 0 rfl (Nat.zero_le _)⟩
  refine ⟨.non, _, I.lset (t' := s.toks) (its' := its.eraseIdx j) hH e ?_ (eraseIdx_vals (j := j) r) ?_, rfl, q j (by (first | lia | omega))⟩
  · have hj2 : j < its.length := by rw [← hl]; (first | lia | omega)
    simp [Array.eraseIdxIfInBounds, hj2]
  · have := List.length_eraseIdx_le xs j
    (first | lia | omega)
end
end L2

set_option Elab.async false
set_option linter.all false
set_option maxRecDepth 100000
set_option maxHeartbeats 4000000
namespace L2
open PySem PySem.Spec PyProof.Rows
section
variable {κ : Type} [DecidableEq κ]
noncomputable def valV (kvs : List (κ × V)) (k : κ) : Option V := (kvs.find? fun kv => decide (kv.1 = k)).map (·.2)
noncomputable def putK (kvs : List (κ × V)) (k : κ) (v : V) : List (κ × V) :=
  if (kvs.any fun kv => decide (kv.1 = k)) = true then kvs.map (fun kv => if kv.1 = k then (kv.1, v) else kv) else kvs ++ [(k, v)]

theorem valV_pos {p : κ × V} {r : List (κ × V)} {k : κ} (e : p.1 = k) : valV (p :: r) k = some p.2 := by simp [valV, List.find?_cons, e]
theorem valV_neg {p : κ × V} {r : List (κ × V)} {k : κ} (e : ¬ p.1 = k) : valV (p :: r) k = valV r k := by simp [valV, List.find?_cons, e]
theorem valV_any (k : κ) : ∀ kvs : List (κ × V), (kvs.any fun kv => decide (kv.1 = k)) = (valV kvs k).isSome
  | [] => rfl
  | p :: r => by
    rw [List.any_cons]
    by_cases e : p.1 = k
    · simp only [valV_pos e, decide_eq_true e, Bool.true_or, Option.isSome_some]
    · rw [valV_neg e, decide_eq_false e, Bool.false_or]; exact valV_any k r
theorem length_putK (kvs : List (κ × V)) (k : κ) (v : V) : (putK kvs k v).length ≤ kvs.length + 1 := by
  unfold putK
  split
  · rw [List.length_map]; (first | lia | omega)
  · rw [List.length_append, List.length_cons, List.length_nil]; (first | lia | omega)

theorem RelO.isSome_eq {o : Option V} {u : Option Value} (r : RelO o u) : o.isSome = u.isSome := by
  cases o with
  | none => cases u with
    | none => rfl
    | some _ => exact (show False from r).elim
  | some _ => cases u with
    | none => exact (show False from r).elim
    | some _ => rfl

theorem KV.val {kvs : List (κ × V)} {vs : List (κ × Value)} (r : KV kvs vs) (k : κ) : RelO (valV kvs k) (valueAt vs k) := by
  unfold KV at r
  induction r with
  | nil => exact True.intro
  | @cons p q ps qs h t ih =>
    obtain ⟨h1, h2⟩ := h
    by_cases e : p.1 = k
    · have e' : q.1 = k := h1.symm.trans e
      have b : valueAt (q :: qs) k = some q.2 := by simp [valueAt, List.find?_cons, e']
      rw [valV_pos e, b]; exact h2
    · have e' : ¬ q.1 = k := fun z => e (h1.trans z)
      have b : valueAt (q :: qs) k = valueAt qs k := by simp [valueAt, List.find?_cons, e']
      rw [valV_neg e, b]; exact ih
theorem KV.any {kvs : List (κ × V)} {vs : List (κ × Value)} (r : KV kvs vs) (k : κ) : (kvs.any fun kv => decide (kv.1 = k)) = vs.any fun kv => decide (kv.1 = k) := by
  unfold KV at r
  induction r with
  | nil => rfl
  | cons h t ih => rw [List.any_cons, List.any_cons, ih, h.1]
theorem KV.repl {kvs : List (κ × V)} {vs : List (κ × Value)} (r : KV kvs vs) (k : κ) {y : V} {u : Value} (ry : RelV y u) :
    KV (kvs.map fun kv => if kv.1 = k then (kv.1, y) else kv) (vs.map fun kv => if kv.1 = k then (kv.1, u) else kv) := by
  unfold KV at r ⊢
  induction r with
  | nil => exact .nil
  | @cons p q ps qs h t ih =>
    rw [List.map_cons, List.map_cons]
    refine .cons ?_ ih
    obtain ⟨h1, h2⟩ := h
    by_cases e : p.1 = k
    · rw [if_pos e, if_pos (h1.symm.trans e)]; exact ⟨h1, ry⟩
    · rw [if_neg e, if_neg (fun z => e (h1.trans z))]; exact ⟨h1, h2⟩
theorem KV.put {kvs : List (κ × V)} {vs : List (κ × Value)} (r : KV kvs vs) (k : κ) {y : V} {u : Value} (ry : RelV y u) : KV (putK kvs k y) (stored vs k u) := by
  unfold putK stored
  rw [r.any k]
  by_cases e : (vs.any fun kv => decide (kv.1 = k)) = true
  · rw [if_pos e, if_pos e]; exact r.repl k ry
  · rw [if_neg e, if_neg e]; exact Paired.snoc r ⟨rfl, ry⟩
theorem KV.length {kvs : List (κ × V)} {vs : List (κ × Value)} (r : KV kvs vs) : kvs.length = vs.length := Paired.length r
end


theorem kV_is {P : Program} {w : World} {k : Key} {u : Value} (r : RelV (kV k) u) : (mixKind P w).is k u = true := by
  cases k with
  | inl i => obtain ⟨t, e⟩ := (show ∃ t, u = Value.int i t from r); subst e; exact mixKind_int P w i t
  | inr x => obtain ⟨t, e⟩ := (show ∃ t, u = Value.str x t from r); subst e; exact mixKind_str P w x t
theorem items_are {P : Program} {w : World} : ∀ {ks : List Key} {us : List Value}, Vals (ks.map kV) us → ItemsAre (mixKind P w) ks us
  | [], _, r => by rw [List.map_nil] at r; cases r; exact .nil
  | k :: ks, _, r => by
    rw [List.map_cons] at r
    cases r with
    | cons h t => exact .cons (kV_is h) (items_are t)

noncomputable abbrev KT (H : Hp) : List (List Key × V) → List (List Key × Addr × Value) → Prop := Paired fun p q => p.1 = q.1 ∧ H q.2.1 = some (.tup (p.1.map kV)) ∧ RelV p.2 q.2.2
theorem KT.val {H : Hp} {kvs : List (List Key × V)} {xs : List (List Key × Addr × Value)} (r : KT H kvs xs) (k : List Key) : RelO (valV kvs k) ((atKey xs k).map (·.2)) := by
  induction r with
  | nil => exact True.intro
  | @cons p q ps qs h t ih =>
    obtain ⟨h1, _, h2⟩ := h
    by_cases e : p.1 = k
    · have e' : q.1 = k := h1.symm.trans e
      have b : atKey (q :: qs) k = some q.2 := by simp [atKey, List.find?_cons, e']
      rw [valV_pos e, b]; exact h2
    · have e' : ¬ q.1 = k := fun z => e (h1.trans z)
      have b : atKey (q :: qs) k = atKey qs k := by simp [atKey, List.find?_cons, e']
      rw [valV_neg e, b]; exact ih
theorem KT.repl {H : Hp} {kvs : List (List Key × V)} {xs : List (List Key × Addr × Value)} (r : KT H kvs xs) (k : List Key) {y : V} {u : Value} (ry : RelV y u) :
    KT H (kvs.map fun kv => if kv.1 = k then (kv.1, y) else kv) (xs.map (putAt k u)) := by
  induction r with
  | nil => exact .nil
  | @cons p q ps qs h t ih =>
    rw [List.map_cons, List.map_cons]
    refine .cons ?_ ih
    obtain ⟨h1, h2, h3⟩ := h
    unfold putAt
    by_cases e : p.1 = k
    · rw [if_pos e, if_pos (h1.symm.trans e)]; exact ⟨h1, h2, ry⟩
    · rw [if_neg e, if_neg (fun z => e (h1.trans z))]; exact ⟨h1, h2, h3⟩
theorem KT.put {H : Hp} {kvs : List (List Key × V)} {xs : List (List Key × Addr × Value)} (r : KT H kvs xs) (k : List Key) {b : Addr} {y : V} {u : Value} (hb : H b = some (.tup (k.map kV))) (ry : RelV y u) :
    KT H (putK kvs k y) (storedH xs k b u) := by
  have e : (kvs.any fun kv => decide (kv.1 = k)) = (atKey xs k).isSome := by
    rw [valV_any, (r.val k).isSome_eq, Option.isSome_map]
  unfold putK storedH
  rw [e]
  by_cases q : (atKey xs k).isSome = true
  · rw [if_pos q, if_pos q]; exact r.repl k ry
  · rw [if_neg q, if_neg q]; exact Paired.snoc r ⟨rfl, hb, ry⟩
theorem KT.keeps {H H' : Hp} {kvs : List (List Key × V)} {xs : List (List Key × Addr × Value)} (r : KT H kvs xs) (ht : ∀ b ys, H b = some (.tup ys) → H' b = some (.tup ys)) : KT H' kvs xs :=
  Paired.mapP r fun _ _ z => ⟨z.1, ht _ _ z.2.1, z.2.2⟩

section
variable {P : Program} {w : World} {H : Hp} {h : Heap} {a : Addr}
theorem rd_of {u : HO} (ok : HOk P w H h) (e : Rd H a u) : ObjOk P w H h a u := e.ok ok
theorem dk_rd {kvs : List (Key × V)} (ok : HOk P w H h) (e : Rd H a (.dK kvs)) : kvs.length ≤ sizeLine ∧ (a == sysModules) = false ∧ ∃ vs, KV kvs vs ∧ h.DictOf (mixKind P w) a vs :=
  show ObjOk P w H h a (.dK kvs) from rd_of ok e
theorem dk_of {kvs : List (Key × V)} (ok : HOk P w H h) (e : H a = some (.dK kvs)) : kvs.length ≤ sizeLine ∧ (a == sysModules) = false ∧ ∃ vs, KV kvs vs ∧ h.DictOf (mixKind P w) a vs := dk_rd ok (.inl e)
theorem key_of {ks : List Key} (ok : HOk P w H h) (e : H a = some (.tup (ks.map kV))) : (tupleKind (mixKind P w)).is h ks a := by
  obtain ⟨_, its, r, o, h1, h2, n, h3⟩ := (show ObjOk P w H h a (.tup (ks.map kV)) from ok a _ e)
  exact ⟨o, its.toArray, n, h1, h2, h3, by simpa using items_are r⟩
theorem dt_rd {kvs : List (List Key × V)} (ok : HOk P w H h) (e : Rd H a (.dT kvs)) : kvs.length ≤ sizeLine ∧ (a == sysModules) = false ∧
    ∃ xs, KT H kvs xs ∧ h.DictOfH (tupleKind (mixKind P w)) a xs := by
  obtain ⟨z, y, xs, r, o, es, ep, h1, h2, h3, h4, h5⟩ := (show ObjOk P w H h a (.dT kvs) from rd_of ok e)
  refine ⟨z, y, xs, r, o, es, ep, h1, h2, h3, h4, fun x hx => ?_, h5⟩
  have all : ∀ {l : List (List Key × V)} {m : List (List Key × Addr × Value)}, KT H l m → ∀ x ∈ m, (tupleKind (mixKind P w)).is h x.1 x.2.1 := by
    intro l m q
    induction q with
    | nil => intro x hx; exact nomatch hx
    | @cons p q ps qs hq t ih =>
      intro x hx
      rcases List.mem_cons.mp hx with e | hx
      · subst e
        exact key_of ok (by rw [← hq.1]; exact hq.2.1)
      · exact ih x hx
  exact all r x hx
theorem dt_of {kvs : List (List Key × V)} (ok : HOk P w H h) (e : H a = some (.dT kvs)) : kvs.length ≤ sizeLine ∧ (a == sysModules) = false ∧
    ∃ xs, KT H kvs xs ∧ h.DictOfH (tupleKind (mixKind P w)) a xs := dt_rd ok (.inl e)
end

noncomputable def DGet (H : Hp) (a : Addr) (y : V) (r : Option V) : Prop :=
  (∃ kvs k, Rd H a (.dK kvs) ∧ y = kV k ∧ r = valV kvs k) ∨ ∃ kvs k b, Rd H a (.dT kvs) ∧ y = .ref b ∧ H b = some (.tup (k.map kV)) ∧ r = valV kvs k
noncomputable def DPut (H : Hp) (a : Addr) (y v : V) (H' : Hp) : Prop :=
  (∃ kvs k, H a = some (.dK kvs) ∧ y = kV k ∧ kvs.length < sizeLine ∧ H' = upd H a (.dK (putK kvs k v))) ∨
  ∃ kvs k b, H a = some (.dT kvs) ∧ y = .ref b ∧ H b = some (.tup (k.map kV)) ∧ kvs.length < sizeLine ∧ H' = upd H a (.dT (putK kvs k v))
theorem DGet.k {H : Hp} {a : Addr} {kvs : List (Key × V)} {k : Key} (e : H a = some (.dK kvs)) : DGet H a (kV k) (valV kvs k) := .inl ⟨kvs, k, .inl e, rfl, rfl⟩
theorem DPut.k {H : Hp} {a : Addr} {kvs : List (Key × V)} {k : Key} {v : V} (e : H a = some (.dK kvs)) (hl : kvs.length < sizeLine) : DPut H a (kV k) v (upd H a (.dK (putK kvs k v))) := .inl ⟨kvs, k, e, rfl, hl, rfl⟩


section
variable {X : Cx} {pins : List (Addr × Obj)} {σ : St} {H : Hp} {s : Shared} {a : Addr} {y v : V} {u r : Value} {o : Option V} {A : Around} {E : Value → Shared → Prop}


theorem d_getItem {Q : Value → Shared → Prop} (hu : A.units + 1 < cLine) (I : Inv X pins σ H s) (g : DGet H a y (some v)) (ry : RelV y u) (h : ∀ w' s', Inv X pins σ H s' → RelV v w' → Q w' s') :
    wpAny (model X.prog X.w) A (getItem (.ref a) u) Q E s := by
  rcases g with ⟨kvs, k, e, ey, l⟩ | ⟨kvs, k, b, e, ey, eb, l⟩
  · subst ey
    obtain ⟨z, hd, vs, rel, dd⟩ := dk_rd I.hok e
    obtain ⟨w', hw, rw'⟩ := RelO.some_of (v := v) (o := valueAt vs k) (by rw [l]; exact rel.val k)
    exact wpAny_getItem_of (kV_is ry) dd.mapOf hw (h w' _ (I.tok _) rw')
  · subst ey
    cases (show u = Value.ref b from ry)
    obtain ⟨z, hd, xs, rel, dd⟩ := dt_rd I.hok e
    obtain ⟨w', hw, rw'⟩ := RelO.some_of (v := v) (o := (atKey xs k).map (·.2)) (by rw [l]; exact rel.val k)
    obtain ⟨p, hp, hp2⟩ := Option.map_eq_some_iff.mp hw
    refine wpAny_getItem_heap (tupleKind_room_in1 hu) (key_of I.hok eb) dd hp ?_
    rw [hp2]
    exact h w' _ (I.tok _) rw'
theorem d_write {h' : Heap} {t' : Nat} {ob : HO} (I : Inv X pins σ H s) (mu : Mut (H a)) (hs : Heap.SameBut a s.heap h') (he : ∃ q, h'.get? a = some q) (new : ObjOk X.prog X.w (upd H a ob) h' a ob) :
    Inv X pins σ (upd H a ob) { s with heap := h', toks := t' } :=
  I.write (x := a) (e := a) mu (.inl rfl) (fun b q hb z => (hs.2 b hb).trans z) he new
theorem dk_new {P : Program} {w : World} {H' : Hp} {h' : Heap} {kvs : List (Key × V)} {vs : List (Key × Value)} (z : kvs.length ≤ sizeLine) (hd : (a == sysModules) = false) (rel : KV kvs vs) (dd : h'.DictOf (mixKind P w) a vs) :
    ObjOk P w H' h' a (.dK kvs) := ⟨z, hd, vs, rel, dd⟩
theorem d_setItem {H' : Hp} {Q : Unit → Shared → Prop} (hu : A.units + 1 < cLine) (I : Inv X pins σ H s) (g : DPut H a y v H') (ry : RelV y u) (rv : RelV v r) (h : ∀ s', Inv X pins σ H' s' → Q () s') :
    wpAny (model X.prog X.w) A (setItem (.ref a) u r) Q E s := by
  rcases g with ⟨kvs, k, e, ey, l, eH⟩ | ⟨kvs, k, b, e, ey, eb, l, eH⟩
  · subst ey eH
    obtain ⟨z, hd, vs, rel, dd⟩ := dk_of I.hok e
    have hz : vs.length ≤ sizeLine := by rw [← rel.length]; exact z
    have hl : (putK kvs k v).length ≤ sizeLine := by have := length_putK kvs k v; (first | lia | omega)
    refine wpAny_setItem_pairs (hsz := hz) (kV_is ry) dd fun h' dd' hs => h _ ?_
    have he : ∃ q, h'.get? a = some q := let ⟨q, _, _, hq, _⟩ := dd'; ⟨q, hq⟩
    exact d_write I (by rw [e]; exact True.intro) hs he (dk_new hl hd (rel.put k rv) dd')
  · subst ey eH
    cases (show u = Value.ref b from ry)
    obtain ⟨z, hd, xs, rel, dd⟩ := dt_of I.hok e
    have hz : xs.length ≤ sizeLine := by rw [← Paired.length rel]; exact z
    have hl : (putK kvs k v).length ≤ sizeLine := by have := length_putK kvs k v; (first | lia | omega)
    refine wpAny_setItem_heap (hsz := hz) (tupleKind_room_in1 hu) (key_of I.hok eb) dd fun h' dd' hs => h _ ?_
    obtain ⟨q, es, ep, hq, h2, h3, h4, _, h5⟩ := dd'
    refine d_write I (by rw [e]; exact True.intro) hs ⟨q, hq⟩ ⟨hl, hd, _, (rel.put k eb rv).keeps fun c ys ec => ?_, q, es, ep, hq, h2, h3, h4, h5⟩
    rw [upd_ne (ne_of ec e (fun z => nomatch z))]
    exact ec
end

section
variable {X : Cx} {pins : List (Addr × Obj)} {σ : St} {H : Hp} {s : Shared} {a : Addr} {kvs : List (Key × V)} {k : Key} {u : Value} {A : Around} {E : Value → Shared → Prop}
end


noncomputable def NoSl (i : Expr) : Prop := ∀ ov iv, subscripted i false ov iv = operate [ov, iv] (getItem ov iv)
theorem subD_of {prog : Program} {w : World} {A : Around} {E : Value → Shared → Prop} {s : Shared} {env : Env} {value slice : Expr} {pos : Pos} {T id : String} {Q : Value → Shared → Prop}
    (hl : typeLookup (.type T) "__getitem__" = pure (some (.builtin id))) (hs : NoSl slice)
    (h : wpAny (model prog w) A (eval value env) (fun o s₁ => wpAny (model prog w) A (eval slice env) (fun i s₂ => s₂.TypeIs o T ∧ wpAny (model prog w) A (getItem o i) Q E s₂) E s₁) E s) :
    wpAny (model prog w) A (eval (.Subscript value slice pos) env) Q E s := by
  refine Subscript_ (wpAny_mono h (fun o s₁ h₁ => wpAny_mono h₁ (fun i s₂ h₂ => ?_) fun _ _ x => x) fun _ _ x => x)
  obtain ⟨hT, h₂⟩ := h₂
  unfold subscriptTail
  refine wpAny_bind ?_
  rw [getitemInPython_of_ne hT.not_modules]
  refine wpAny_bind (wpAny_specialOf hT hl ?_)
  have fin : wpAny (model prog w) A (subscripted slice false o i) (fun r s₃ => wpAny (model prog w) A (letTemporaryGo value o r >>= fun _ => pure r) Q E s₃) E s₂ := by
    rw [hs o i]
    exact wpAny_operating (wpAny_mono h₂ (fun r s₃ h₃ => wpAny_bind (wpAny_letTemporaryGo (wpAny_pure h₃))) fun _ _ x => x)
  first
    | exact wpAny_pure (wpAny_bind fin)
    | exact wpAny_bind (wpAny_pure (wpAny_bind fin))
    | exact wpAny_bind fin

theorem dict_typeIs {X : Cx} {pins : List (Addr × Obj)} {σ : St} {H : Hp} {s : Shared} {a : Addr} {y : V} {o : Option V} (I : Inv X pins σ H s) (g : DGet H a y o) : s.TypeIs (.ref a) "dict" := by
  rcases g with ⟨kvs, k, e, _, _⟩ | ⟨kvs, k, b, e, _, _, _⟩
  · obtain ⟨_, _, vs, _, dd⟩ := dk_rd I.hok e
    exact dd.typeIs
  · obtain ⟨_, _, xs, _, dd⟩ := dt_rd I.hok e
    exact dd.typeIs

noncomputable def tDGet (td ty : TE) : TE := fun σ H Q => td σ H fun x H1 => ty σ H1 fun y H2 => ∃ a v, x = .ref a ∧ DGet H2 a y (some v) ∧ Q v H2
noncomputable def sDPut (td ty tv : TE) : TS := fun D σ H => tv σ H fun v H1 => td σ H1 fun x H2 => ty σ H2 fun y H3 => ∃ a H4, x = .ref a ∧ DPut H3 a y v H4 ∧ D.nx σ H4

section
variable {X : Cx} {o i e value : Expr} {pos pos' tpos : Pos} {td ty tv : TE}
theorem pe_dget (hu : X.A.units + 1 < cLine) (ho : PE X o td) (hi : PE X i ty) (hs : NoSl i) : PE X (.Subscript o i pos) (tDGet td ty) := by
  intro pins s σ H Q I h
  refine subD_of PySem.F.slot_dict_getitem.lookup hs (thn (ho pins s σ H _ I h) fun u s1 ⟨x, H1, I1, rx, q1⟩ => thn (hi pins s1 σ H1 _ I1 q1) fun iv s2 ⟨y, H2, I2, ry, a, v, ex, g, q2⟩ => ?_)
  subst ex
  obtain rfl : u = Value.ref a := rx
  exact ⟨dict_typeIs I2 g, d_getItem hu I2 g ry fun w' s3 I3 rw' => ⟨v, H2, I3, rw', q2⟩⟩
theorem ps_dput (hu : X.A.units + 1 < cLine) (ho : PE X o td) (hi : PE X i ty) (hv : PE X value tv) (hs : swapsWith value (some (.Subscript o i pos')) pos.line X.env = pure false) :
    PS X (.Assign [.Subscript o i pos'] value pos) (sDPut td ty tv) := by
  intro pins s σ H D I h
  refine wpAny_Assign_Subscript (thn (hv pins s σ H _ I h) fun r s1 ⟨v, H1, I1, rv, q1⟩ => thn (ho pins s1 σ H1 _ I1 q1) fun u s2 ⟨x, H2, I2, rx, q2⟩ => thn (hi pins s2 σ H2 _ I2 q2) fun iv s3 ⟨y, H3, I3, ry, a, H4, ex, g, q3⟩ => ?_) hs
  subst ex
  obtain rfl : u = Value.ref a := rx
  exact d_setItem hu I3 g ry rv fun s4 I4 => ⟨σ, H4, I4, q3⟩
end


section
variable {X : Cx} {pos : Pos}
end

noncomputable def tPairs : List (TE × TE) → St → Hp → (List (V × V) → Hp → Prop) → Prop
  | [], _, H, Q => Q [] H
  | (tk, tv) :: r, σ, H, Q => tk σ H fun x H1 => tv σ H1 fun y H2 => tPairs r σ H2 fun ps H3 => Q ((x, y) :: ps) H3
noncomputable abbrev VV : List (V × V) → List (Value × Value) → Prop := Paired fun p q => RelV p.1 q.1 ∧ RelV p.2 q.2
noncomputable def PPs (X : Cx) (pos : Pos) (keys : List (Option Expr)) (values : List Expr) (trs : List (TE × TE)) : Prop :=
  ∀ (pins : List (Addr × Obj)) (s : Shared) (σ : St) (H : Hp) (Q : List (V × V) → Hp → Prop), Inv X pins σ H s → tPairs trs σ H Q →
    wpAny (model X.prog X.w) X.A (evalPairs (pairTrees keys values X.env pos)) (fun vs s' => ∃ ps H', Inv X pins σ H' s' ∧ VV ps vs ∧ Q ps H') X.xe s
theorem pps_nil {X : Cx} {pos : Pos} : PPs X pos [] [] [] := fun pins s σ H Q I h => pairTrees_nil_walk ⟨[], H, I, .nil, h⟩
theorem pps_cons {X : Cx} {pos : Pos} {k v : Expr} {ks : List (Option Expr)} {vs : List Expr} {tk tv : TE} {trs : List (TE × TE)} (hk : PE X k tk) (hv : PE X v tv) (hr : PPs X pos ks vs trs) :
    PPs X pos (some k :: ks) (v :: vs) ((tk, tv) :: trs) := fun pins s σ H Q I h =>
  pairTrees_cons_walk (thn (hk pins s σ H _ I h) fun u s1 ⟨x, H1, I1, rx, q1⟩ => thn (hv pins s1 σ H1 _ I1 q1) fun w2 s2 ⟨y, H2, I2, ry, q2⟩ =>
    thn (hr pins s2 σ H2 _ I2 q2) fun ws s3 ⟨ps, H3, I3, rel, q3⟩ => ⟨(x, y) :: ps, H3, I3, .cons ⟨rx, ry⟩ rel, q3⟩)

noncomputable def mergeK (kvs more : List (Key × V)) : List (Key × V) := more.foldl (fun acc kv => putK acc kv.1 kv.2) kvs
theorem KV.merge : ∀ {more : List (Key × V)} {rs : List (Key × Value)} {kvs : List (Key × V)} {vs : List (Key × Value)}, KV more rs → KV kvs vs → KV (mergeK kvs more) (merged vs rs) := by
  intro more rs kvs vs r
  unfold KV at r
  induction r generalizing kvs vs with
  | nil => intro q; exact q
  | @cons p q ps qs h t ih =>
    intro r0
    have e : KV (putK kvs p.1 p.2) (stored vs q.1 q.2) := by
      have := r0.put p.1 h.2
      rw [← h.1]; exact this
    exact ih e
theorem length_mergeK : ∀ (more kvs : List (Key × V)), (mergeK kvs more).length ≤ kvs.length + more.length
  | [], kvs => by show kvs.length ≤ kvs.length + 0; (first | lia | omega)
  | p :: r, kvs => by
    have h1 := length_mergeK r (putK kvs p.1 p.2)
    have h2 := length_putK kvs p.1 p.2
    show (mergeK (putK kvs p.1 p.2) r).length ≤ _
    rw [List.length_cons]; (first | lia | omega)
theorem carries_of {P : Program} {w : World} : ∀ {kvs : List (Key × V)} {ws : List (Value × Value)}, VV (kvs.map fun kv => (kV kv.1, kv.2)) ws → ∃ rs, Carries (mixKind P w) ws rs ∧ KV kvs rs
  | [], _, r => by rw [List.map_nil] at r; cases r; exact ⟨[], True.intro, .nil⟩
  | p :: kvs, _, r => by
    rw [List.map_cons] at r
    cases r with
    | @cons a b as bs h t =>
      obtain ⟨rs, c, q⟩ := carries_of (P := P) (w := w) t
      obtain ⟨b1, b2⟩ := b
      exact ⟨(p.1, b2) :: rs, ⟨kV_is h.1, rfl, c⟩, .cons ⟨rfl, h.2⟩ q⟩
noncomputable def tDisp (trs : List (TE × TE)) : TE := fun σ H Q => ∀ p, H p = none → tPairs trs σ (upd H p (.dK [])) fun ps H2 => H2 p = some (.dK []) ∧ ∃ kvs : List (Key × V), ps = kvs.map (fun kv => (kV kv.1, kv.2)) ∧ kvs.length ≤ 15 ∧ Q (.ref p) (upd H2 p (.dK (mergeK [] kvs)))
theorem pe_disp {X : Cx} {pos : Pos} {keys : List (Option Expr)} {values : List Expr} {trs : List (TE × TE)} (h : PPs X pos keys values trs) (hall : keys.all (·.isSome) = true) (hl : keys.length = values.length) (h0 : keys ≠ [])
    (h15 : keys.length ≤ 15) : PE X (.Dict keys values pos) (tDisp trs) := by
  intro pins s σ H Q I q
  have hn := I.hok.fresh (Nat.le_refl s.heap.objs.size)
  have I1 := I.laid (a := s.heap.objs.size) (o := .dK []) (h' := s.heap.push { cls := .type "dict", data := .dict #[] }) (t' := s.toks) (fun _ _ q => Heap.get?_push_of_some _ q) (Nat.le_refl _) (dk_empty s.heap I.big)
  refine wpAny_Dict_walk (knd := mixKind X.prog X.w) hall hl h0 h15 (thn (h pins _ σ _ _ I1 (q _ hn)) fun ws s2 ⟨ps, H2, I2, rel, e, kvs, ep, lk, q2⟩ => ?_)
  subst ep
  obtain ⟨rs, c, rk⟩ := carries_of (P := X.prog) (w := X.w) rel
  obtain ⟨z, hd, vs0, r0, dd⟩ := dk_of I2.hok e
  cases r0
  refine ⟨rs, c, dd, fun h' dd' hs => ⟨.ref s.heap.objs.size, _, ?_, rfl, q2⟩⟩
  have hz : (mergeK [] kvs).length ≤ sizeLine := by
    have h1 := length_mergeK kvs []
    rw [List.length_nil] at h1
    rw [sizeLine_eq]; (first | lia | omega)
  have he : ∃ q, h'.get? s.heap.objs.size = some q := let ⟨q, _, _, hq, _⟩ := dd'; ⟨q, hq⟩
  exact d_write I2 (by rw [e]; exact True.intro) hs he (dk_new hz hd (rk.merge .nil) dd')


end L2

set_option Elab.async false
set_option linter.all false
set_option maxRecDepth 100000
namespace L2
open PySem PySem.Spec PyProof.Rows
theorem is_kV {P : Program} {w : World} {k : Key} {u : Value} (h : (mixKind P w).is k u = true) : RelV (kV k) u := by
  cases k with
  | inl i => exact Value.isInt_shape (show Value.isInt i u = true from h)
  | inr x => exact Value.isStrOf_shape (show Value.isStrOf x u = true from h)
section
variable {X : Cx} {pins : List (Addr × Obj)} {σ : St} {H : Hp} {s : Shared} {a : Addr}
theorem Inv.frzD {kvs : List (Key × V)} (I : Inv X pins σ H s) (e : H a = some (.dK kvs)) : ∃ o vs ep, (∃ es, o.data = .dict es ep) ∧ KV kvs vs ∧ s.heap.DictAt (mixKind X.prog X.w) a vs ep ∧ s.heap.get? a = some o ∧ (a == sysModules) = false ∧ Inv X pins σ (upd H a (.frz o (.dK kvs))) s := by
  obtain ⟨z, hd, vs, rel, dd⟩ := dk_of I.hok e
  obtain ⟨o, es, ep, h1, h2, h3, r⟩ := id dd
  have u : Un X.fs [] H (upd H a (.frz o (.dK kvs))) s.heap s.heap := by
    have ne : ∀ c z, H c = some z → (∀ kvs, z ≠ .dK kvs) → c ≠ a := fun c z ec n q => by rw [q, e] at ec; cases ec; exact n kvs rfl
    refine ⟨fun _ _ q _ _ _ => q, fun b o q _ _ _ => ⟨o.slots, q⟩, fun b ob q n _ => ?_, fun b o q _ => ⟨o, q⟩, fun b xs q => ?_, fun b ob z q => ?_, fun b ps q => ⟨#[], ?_⟩⟩
    · rw [upd_ne (fun z => by rw [z, e] at n; cases n)]; exact n
    · rw [upd_ne (ne b _ q (fun _ z => by cases z))]; exact q
    · rw [upd_ne (ne b _ q (fun _ z => by cases z))]; exact q
    · rw [upd_ne (ne b _ q (fun _ z => by cases z)), q]; simp
  have ok : HOk X.prog X.w (upd H a (.frz o (.dK kvs))) s.heap := fun b w' eb => by
    have ho : ∀ c d, H c = some (.own d) → upd H a (.frz o (.dK kvs)) c = some (.own d) := fun c d ec => by
      rw [upd_ne (fun z => by rw [z, e] at ec; cases ec)]; exact ec
    have ht : ∀ c xs, H c = some (.tup xs) → upd H a (.frz o (.dK kvs)) c = some (.tup xs) := fun c xs ec => by
      rw [upd_ne (fun z => by rw [z, e] at ec; cases ec)]; exact ec
    by_cases q : b = a
    · subst q
      rw [upd_same] at eb
      cases eb
      exact ⟨h1, (I.hok b _ e).stay (fun _ _ _ z => z) (fun c z => ho c _ z) ht⟩
    · rw [upd_ne q] at eb
      exact (I.hok b _ eb).stay (fun _ _ _ z => z) (fun c z => ho c _ z) ht
  have I2 := I.un (t' := s.toks) u ok
  exact ⟨o, vs, ep, ⟨es, h3⟩, rel, ⟨o, es, h1, h2, h3, r⟩, h1, hd, I2⟩
end
noncomputable def Itd (a : Addr) (o : Obj) (kvs : List (Key × V)) : It :=
  ⟨fun i H => H a = some (.frz o (.dK kvs)) ∧ i < kvs.length, fun i H x H' => H' = H ∧ ∃ kv, kvs[i]? = some kv ∧ x = kV kv.1, fun i H => H a = some (.frz o (.dK kvs)) ∧ kvs.length ≤ i⟩
theorem kv_get {kvs : List (Key × V)} {vs : List (Key × Value)} (r : KV kvs vs) {i : Nat} {kv : Key × V} (h : kvs[i]? = some kv) : ∃ u, vs[i]? = some (kv.1, u) := by
  obtain ⟨q, h1, h2⟩ := paired_get r h
  obtain ⟨k, u⟩ := q
  exact ⟨u, by rw [h1, h2.1]⟩
theorem frz_at {P : Program} {w : World} {H : Hp} {h : Heap} {a : Addr} {o : Obj} {ep : Nat} {kvs : List (Key × V)} (ok : HOk P w H h) (e : H a = some (.frz o (.dK kvs))) (hd : ∃ es, o.data = .dict es ep) : ∃ vs, KV kvs vs ∧ h.DictAt (mixKind P w) a vs ep := by
  obtain ⟨h1, _, _, vs, rel, ⟨o', es, ep', h1', h2, h3, r⟩⟩ := (show ObjOk P w H h a (.frz o (.dK kvs)) from ok a _ e)
  rw [h1] at h1'
  cases h1'
  obtain ⟨es', hd⟩ := hd
  rw [h3] at hd
  cases hd
  exact ⟨vs, rel, o, es, h1, h2, h3, r⟩
theorem turn_dict {P : Program} {w : World} {K : PySem.W.Frag} {tg : Expr} {a it : Addr} {o : Obj} {kvs : List (Key × V)} {ep : Nat} (hd : ∃ es, o.data = .dict es ep) : Turn P w K tg (Itd a o kvs) [it] it (fun i h => h.IsKeyIter it a i kvs.length ep) where
  mem := by simp
  obj := fun i h st b hb => by
    have e : b = it := by simpa using hb
    subst e
    obtain ⟨o, e, c, d⟩ := st
    exact ⟨o, e, fun v z => by rw [d] at z; cases z⟩
  keep := fun i h h' st k => let ⟨o, e, r⟩ := st; ⟨o, k it (by simp) o e, r⟩
  item := by
    intro X hP hw hK hc i pins s σ H E I hf st hg
    subst hP hw hK
    obtain ⟨e, hi⟩ := hg
    obtain ⟨vs, rel, dd⟩ := frz_at I.hok e hd
    obtain ⟨u, hu⟩ := kv_get rel (List.getElem?_eq_getElem hi)
    have hl : vs.length = kvs.length := rel.length.symm
    obtain ⟨f0, f1, f2, f3, f4, f5⟩ := hf it (by simp)
    refine wpAny_pyNext_dict_item (kvs := vs) (by rw [hl]; exact st) dd hu fun key h' hk st' sb => ?_
    rw [hl] at st'
    have I1 : Inv X pins σ H { s with heap := h' } := I.turned (t' := s.toks) (fun b o hb e => (sb.2 b hb).trans e) f0 f1 f3 f4 f5
    obtain ⟨o', e', c', d'⟩ := id st'
    exact ⟨key, rfl, go_of (s := { s with heap := h' }) e' c' d' (by decide) ⟨_, H, I1, is_kV hk, ⟨rfl, _, List.getElem?_eq_getElem hi, rfl⟩, st', fun b hb => (hf b hb).1⟩⟩
  done := by
    intro X hP hw hK hc i pins s σ H E I hf st hg
    subst hP hw hK
    obtain ⟨e, hi⟩ := hg
    obtain ⟨vs, rel, dd⟩ := frz_at I.hok e hd
    have hl : vs.length = kvs.length := rel.length.symm
    obtain ⟨f0, f1, f2, f3, f4, f5⟩ := hf it (by simp)
    exact wpAny_pyNext_dict_end (kvs := vs) (I.ok.hd hc) (by rw [hl]; exact st) dd (List.getElem?_eq_none (by (first | lia | omega))) fun h' eb => ⟨rfl, I.turned (t' := s.toks) (fun b o hb e => eb b o hb e) f0 f1 f3 f4 f5⟩
  self := fun A i s Q E st h => by
    have ty : s.TypeIs (.ref it) "dict_keyiterator" := st.typeIs
    refine wpAny_pyIter_slot ty PySem.F.slot_dict_keyiterator_iter (wpAny_call_entry PySem.F.slot_dict_keyiterator_iter ty PySem.F.entry_dict_keyiterator_iter ?_ (PySem.F.args_dict_keyiterator_iter_1 _))
    show wpAny _ _ (ret (.ref it)) _ _ s
    exact wpAny_pure ⟨_, rfl, "dict_keyiterator", _, ty, PySem.F.slot_dict_keyiterator_next.lookup, h⟩
section
variable {X : Cx} {tg : Expr}
noncomputable def iDict (tl : TE) : TI := fun σ H R => tl σ H fun v H1 => ∃ a kvs, v = .ref a ∧ H1 a = some (.dK kvs) ∧ ∀ o, R (Itd a o kvs) (upd H1 a (.frz o (.dK kvs)))
theorem pi_dict {l : Expr} {tl : TE} (hl : PE X l tl) : PI X tg l (iDict tl) := by
  intro pins s σ H R I h
  refine thn (hl pins s σ H _ I h) fun v s1 ⟨x, H1, I1, r1, q1⟩ => ?_
  obtain ⟨a, kvs, e, hq, q⟩ := q1
  subst e
  cases r1
  obtain ⟨o, vs, ep, hd, rel, dd, ho, hsys, I2⟩ := I1.frzD hq
  refine wpAny_pyIter_dict hsys dd ?_
  rw [show vs.length = kvs.length from rel.length.symm]
  refine ⟨s1.heap.objs.size, [s1.heap.objs.size], _, _, _, rfl, I2.kept (t' := s1.toks) fun b o e => Heap.get?_push_of_some _ e, turn_dict hd, ⟨_, Heap.get?_push_size _ rfl, rfl, rfl⟩, fun b hb => ?_, q o⟩
  have e : b = s1.heap.objs.size := by simpa using hb
  subst e
  exact I2.fpOk (Nat.le_refl _) (I2.hok.fresh (Nat.le_refl _))
end
end L2

set_option Elab.async false
set_option linter.all false
set_option maxRecDepth 100000
namespace L2
open PySem PySem.Spec PyProof.Rows
open PySem.Builtin.Str
section
variable {X : Cx}
theorem call_all (hc : X.calm = true) : CallR X (.builtin "all") (fun xs H Q => ∃ (p : Addr) (bs : List Bool), xs = [.ref p] ∧ SqL X.K H p (bs.map V.bl) ∧ Q (.bl (bs.all id)) H) := by
  intro pins s σ H xs us Q I r h
  obtain ⟨p, bs, rfl, hl, q⟩ := h
  obtain ⟨u, rfl, rx⟩ := vals1 r
  cases rx
  obtain ⟨its, rv, pl, hz⟩ := I.list hl
  have hb : ∀ {cs : List Bool} {vs : List Value}, Vals (cs.map V.bl) vs → vs = cs.map Value.bool := by
    intro cs
    induction cs with
    | nil => intro vs h; cases h; rfl
    | cons b cs ih => intro vs h; cases h with
      | cons h1 h2 => rw [ih h2]; cases h1; rfl
  have eb := hb rv
  subst eb
  have hlt : p < s.heap.objs.size := by obtain ⟨_, e, _⟩ := pl.isList; exact Heap.lt_size e
  refine call_all_walk (wpAny_pyIter_list pl.isList ?_)
  refine ⟨s.heap.objs.size, [s.heap.objs.size, p], [s.heap.objs.size], (bs.map Value.bool).toArray.size, _, _, fun i => (bs[i]?).getD true, rfl, Walks.list (A := X.A.in1) (I.ok.hd hc) _ p (Nat.ne_of_lt hlt) (bs.map Value.bool).toArray,
    ⟨⟨_, Heap.get?_push_size _ rfl, rfl, rfl⟩, pl.isList.push _⟩, fun i v s' Q' E' hP hQ => ?_, fun h' tk hk => ?_⟩
  · have hP' : (bs.map Value.bool)[i]? = some v := by simpa using hP
    rw [List.getElem?_map] at hP'
    obtain ⟨b, e, rfl⟩ := Option.map_eq_some_iff.mp hP'
    simp only [e, Option.getD_some] at hQ
    exact wpAny_truthy_bool hQ
  · have e : ((List.range (bs.map Value.bool).toArray.size).all fun i => (bs[i]?).getD true) = bs.all id := by
      rw [List.size_toArray, List.length_map]; exact PyProof.Rows.LSm.range_all bs
    rw [e]
    exact ⟨.bl _, H, I.kept (PyProof.Rows.LSm.kept_iter hk), rfl, q⟩
end
end L2

set_option Elab.async false
set_option linter.all false
set_option maxRecDepth 100000
namespace L2
open PySem PySem.Spec PyProof.Rows
theorem comp_zip {K : PySem.W.Frag} {a b p : Addr} {xs zs : List V} {g : TG} {tt : TT} {te : TE} {σc : St} {H0 : Hp} {R : Hp → Prop} (Pv : Nat → List V → Hp → Prop) (hle : zs.length ≤ xs.length) (h0 : Pv 0 [] H0) (hl : ∀ i ys H, Pv i ys H → SqL K H a xs ∧ SqL K H b zs ∧ H p = some (.lst ys))
    (hs : ∀ i x z ys H t, i < zs.length → xs[i]? = some x → zs[i]? = some z → Pv i ys H → H t = none → g (.ref t) σc (upd H t (.tup [x, z])) fun σ2 H2 => Wk σc σ2 ∧ tt σ2 H2 fun b H3 =>
      if b = true then te σ2 H3 fun y H4 => H4 p = some (.lst ys) ∧ ys.length < sizeLine ∧ Nx zs.length i (Pv (i + 1) (ys ++ [y]) (upd H4 p (.lst (ys ++ [y])))) else Nx zs.length i (Pv (i + 1) ys H3))
    (hd : ∀ ys H, Pv zs.length ys H → R H) : ∃ W : Nat → Nat → List V → Hp → Prop, (∃ m, W 0 m [] H0) ∧ cTurn (Itz K a b) g tt te σc p W R := by
  refine ⟨fun i m ys H => m = zs.length - i ∧ i ≤ zs.length ∧ Pv i ys H, ⟨zs.length, by simp, Nat.zero_le _, h0⟩, ?_⟩
  rintro i m ys H ⟨rfl, hi, q⟩
  obtain ⟨q1, q2, q3⟩ := hl i ys H q
  refine ⟨q3, ?_⟩
  by_cases hlt : i < zs.length
  · refine .inr ⟨⟨xs, zs, xs[i], zs[i], q1, q2, List.getElem?_eq_getElem (by (first | lia | omega)), List.getElem?_eq_getElem hlt⟩, fun v H' y => ?_⟩
    obtain ⟨t, x, z, ht, rfl, rfl, hx, hz⟩ := y
    exact hs i x z ys H t hlt (hx xs q1) (hz zs q2) q ht
  · have e : i = zs.length := by (first | lia | omega)
    subst e
    exact .inl ⟨⟨xs, zs, q1, q2, .inr (Nat.le_refl _)⟩, hd ys H q⟩
theorem comp_dict {a p : Addr} {o : Obj} {kvs : List (Key × V)} {g : TG} {tt : TT} {te : TE} {σc : St} {H0 : Hp} {R : Hp → Prop} (Pv : Nat → List V → Hp → Prop) (h0 : Pv 0 [] H0) (hl : ∀ i ys H, Pv i ys H → H a = some (.frz o (.dK kvs)) ∧ H p = some (.lst ys))
    (hs : ∀ i kv ys H, i < kvs.length → kvs[i]? = some kv → Pv i ys H → g (kV kv.1) σc H fun σ2 H2 => Wk σc σ2 ∧ tt σ2 H2 fun b H3 =>
      if b = true then te σ2 H3 fun y H4 => H4 p = some (.lst ys) ∧ ys.length < sizeLine ∧ Nx kvs.length i (Pv (i + 1) (ys ++ [y]) (upd H4 p (.lst (ys ++ [y])))) else Nx kvs.length i (Pv (i + 1) ys H3))
    (hd : ∀ ys H, Pv kvs.length ys H → R H) : ∃ W : Nat → Nat → List V → Hp → Prop, (∃ m, W 0 m [] H0) ∧ cTurn (Itd a o kvs) g tt te σc p W R := by
  refine ⟨fun i m ys H => m = kvs.length - i ∧ i ≤ kvs.length ∧ Pv i ys H, ⟨kvs.length, by simp, Nat.zero_le _, h0⟩, ?_⟩
  rintro i m ys H ⟨rfl, hi, q⟩
  obtain ⟨q1, q2⟩ := hl i ys H q
  refine ⟨q2, ?_⟩
  by_cases hlt : i < kvs.length
  · refine .inr ⟨⟨q1, hlt⟩, fun v H' y => ?_⟩
    obtain ⟨rfl, kv, hk, rfl⟩ := y
    exact hs i kv ys _ hlt hk q
  · have e : i = kvs.length := by (first | lia | omega)
    subst e
    exact .inl ⟨⟨q1, Nat.le_refl _⟩, hd ys H q⟩
end L2

set_option Elab.async false
set_option linter.all false
set_option maxRecDepth 100000
namespace Q7
open PySem L2
noncomputable def top (i : Nat) : Stmt := PySem.Challenge.pw_bankshare_k07_fair_looked_at.main.body.getD i (.Pass ⟨0, 0, 0, 0⟩)
structure Py (mg : Str → Option Value) : Prop where
  isi : mg "isinstance" = none
  str : mg "str" = none
  int : mg "int" = none
  bool : mg "bool" = none
  list : mg "list" = none
  tuple : mg "tuple" = none
  len : mg "len" = none
  sum : mg "sum" = none
  max : mg "max" = none
  min : mg "min" = none
  range : mg "range" = none
  enum : mg "enumerate" = none
  verr : mg "ValueError" = none
  rev : mg "reversed" = none
  abs : mg "abs" = none
  sorted : mg "sorted" = none
  set : mg "set" = none
  zip : mg "zip" = none
  all : mg "all" = none
  dry : ∃ t, mg "DRY" = some (.str "dry" t)
  wet : ∃ t, mg "WET" = some (.str "wet" t)
theorem take_snoc {α : Type} {l : List α} {i : Nat} {x : α} (h : l[i]? = some x) : l.take (i + 1) = l.take i ++ [x] := by
  rw [List.take_add_one, h]; rfl
theorem min_eq (i j : Int) : (if j < i then j else i) = min i j := by split <;> (first | lia | omega)
set_option maxHeartbeats 4000000
noncomputable abbrev sLen : Stmt := top 3
noncomputable abbrev sSbs : Stmt := top 4
section
variable {P : Program} {w : World} {K : PySem.W.Frag} {mg : Str → Option Value} {base : Heap}
theorem tot_sum : ∀ rs : List Bk.Rw, (rs.map (·.2)).sum = Bk.tot rs
  | [] => rfl
  | r :: t => by simp [Bk.tot, tot_sum t]
noncomputable def spLen (K : PySem.W.Frag) : Sp := fun vs H Q _ => ∃ a xs rs, vs = [.ref a] ∧ SqL K H a xs ∧ RowsAt H xs rs ∧ rs.length ≤ 1000 ∧ ∀ H', Same H H' → Q (.int (Bk.tot rs)) H'
theorem scL : FnScope ["bank"] ["bank"] (defScope sLen) := ⟨rfl, rfl, rfl, by decide +kernel, rfl, by decide +kernel, by decide +kernel⟩
theorem ok_len {f : Addr} {fd : FuncData} (F : FunG K "length" "length" sLen f fd .none) (T : Py mg) : FnOk P w K mg base CX0 1 f fd ["bank"] (spLen K) := by
  refine F.ok scL (fun vs H Q E h => ?_) (fun cdv A outer s H vs Q E hr h => ?_)
  · obtain ⟨v, r, pl, rfl, _⟩ := h; rfl
  · obtain ⟨a, xs, rs, rfl, hS, hR, hl, k⟩ := h
    refine ⟨_, pss_one (ps_ret (pe_callB (call_sum rfl) rfl T.sum PyProof.Rows.boot_sum (pa_cons (pe_comp (Nc := ["stretch"]) (fv := [none]) ⟨rfl, by decide +kernel, rfl, by decide +kernel, trivial, by decide +kernel, rfl, trivial⟩ rfl (pi_list (pv 0))
      (fun _ _ _ _ _ => pg_name (i := 0) (show (["stretch"] : List Str).Nodup by decide +kernel) rfl (Or.inl rfl)) (fun _ _ _ _ _ => pif_nil) (fun _ _ _ _ _ => pe_ix (ix_tupK (K := K) rfl) (pv 0) pe_int (fun _ _ => rfl))) pa_nil))), ?_⟩
    have hlen := Paired.length hR
    refine ⟨_, rfl, a, rfl, ⟨_, hS⟩, fun p hp => ?_⟩
    refine comp_list (K := K) (a := a) (xs := xs) (fun i ys H2 => Same H H2 ∧ H2 p = some (.lst ys) ∧ ys = ((rs.take i).map (·.2)).map V.int) ⟨same_new hp, upd_same, rfl⟩ (fun i ys H2 h => ⟨h.1.seq hS, h.2.1⟩) ?_ ?_
    · rintro i x ys H2 hi hx ⟨sm, hy, rfl⟩
      obtain ⟨r, hr1, hr2⟩ := hR.get hx
      obtain ⟨q, rfl, hq⟩ := hr2.mono sm.tps
      refine ⟨(Wk.refl _).set rfl, yes ?_⟩
      refine ⟨_, rfl, q, _, 1, _, rfl, rfl, SqT.of hq, rfl, hy, ?_, nx hi ⟨sm.write hp, upd_same, ?_⟩⟩
      · refine Nat.lt_of_le_of_lt (m := 1000) ?_ (by decide)
        simp only [List.length_map, List.length_take]; (first | lia | omega)
      · rw [take_snoc hr1]; simp
    · rintro ys H2 ⟨sm, hy, rfl⟩
      refine ⟨p, _, rfl, SqL.of hy, ?_⟩
      have : ((rs.take xs.length).map (·.2)).sum = Bk.tot rs := by rw [hlen, List.take_length, tot_sum]
      rw [this]
      exact k H2 sm
noncomputable def spSbs (K : PySem.W.Frag) : Sp := fun vs H Q _ => ∃ (a b : Addr) (xs ys : List V) (ra rb : List (V × Int)), vs = [.ref a, .ref b] ∧ SqL K H a xs ∧ NRsAt H xs ra ∧ SqL K H b ys ∧ NRsAt H ys rb ∧
  (∀ r ∈ ra, 0 < r.2) ∧ (∀ r ∈ rb, 0 < r.2) ∧ Bk.ntot ra = Bk.ntot rb ∧ ra.length + rb.length ≤ 2000 ∧
  ∀ p zs H', Same H H' → H p = none → H' p = some (.lst zs) → TrsAt H' zs (Bk.sbs ra rb) → Q (.ref p) H'
theorem scSb : FnScope ["rows", "others", "left", "others_left", "runs", "row", "other", "both"] ["rows", "others"] (defScope sSbs) := ⟨rfl, rfl, rfl, by decide +kernel, rfl, by decide +kernel, by decide +kernel⟩
seal L2.PSs L2.PS L2.PE L2.PA L2.PT L2.PW
theorem ok_sbs {f : Addr} {fd : FuncData} (F : FunG K "side_by_side" "side_by_side" sSbs f fd .none) (T : Py mg) : FnOk P w K mg base CX0 1 f fd ["rows", "others"] (spSbs K) := by
  refine F.ok scSb (fun vs H Q E h => ?_) (fun cdv A outer s H vs Q E hr h => ?_)
  · obtain ⟨_, _, _, _, _, _, rfl, _⟩ := h; rfl
  · obtain ⟨a, b, xs, ys, ra, rb, rfl, hA, hRa, hB, hRb, pa, pb, ht, hN, k⟩ := h
    refine ⟨_, pss_cons (ps_set (i := 2) scSb.nd rfl (Or.inl rfl) (pe_lrev rfl rfl T.list rfl T.rev (pa_cons (pv 0) pa_nil)))
      (pss_cons (ps_set (i := 3) scSb.nd rfl (Or.inl rfl) (pe_lrev rfl rfl T.list rfl T.rev (pa_cons (pv 1) pa_nil)))
      (pss_cons (ps_set (i := 4) scSb.nd rfl (Or.inl rfl) (pe_lst pa_nil))
      (pss_cons (ps_while PassesOwn.never (pt_cmpR op_gt (pe_callB call_len_seq rfl T.len PySem.boot_len (pa_cons (pv 2) pa_nil)) pe_int (nomark _))
        (pss_cons (ps_set (i := 5) scSb.nd rfl (Or.inl rfl) (pe_bm0 PySem.F.plainAttrs_list PySem.F.slot_list_pop PySem.F.type_list_pop mt_pop (pv 2)))
        (pss_cons (ps_set (i := 6) scSb.nd rfl (Or.inl rfl) (pe_bm0 PySem.F.plainAttrs_list PySem.F.slot_list_pop PySem.F.type_list_pop mt_pop (pv 3)))
        (pss_cons (ps_set (i := 7) scSb.nd rfl (Or.inl rfl) (pe_callB (call_min2 rfl) rfl T.min PyProof.Rows.boot_min (pa_cons (pe_ix ix_tup (pv 5) pe_int (fun _ _ => rfl)) (pa_cons (pe_ix ix_tup (pv 6) pe_int (fun _ _ => rfl)) pa_nil))))
        (pss_cons (ps_expr (pe_bm PySem.F.plainAttrs_list PySem.F.slot_list_append PySem.F.type_list_append mt_append (pv 4) (pa_cons (pe_tup (pa_cons (pe_ix ix_tup (pv 5) pe_int (fun _ _ => rfl)) (pa_cons (pe_ix ix_tup (pv 6) pe_int (fun _ _ => rfl)) (pa_cons (pv 7) pa_nil)))) pa_nil)))
        (pss_cons (ps_if (pt_cmpR op_gt (pe_ix ix_tup (pv 5) pe_int (fun _ _ => rfl)) (pv 7) (nomark _))
          (pss_one (ps_expr (pe_bm PySem.F.plainAttrs_list PySem.F.slot_list_append PySem.F.type_list_append mt_append (pv 2) (pa_cons (pe_tup (pa_cons (pe_ix ix_tup (pv 5) pe_int (fun _ _ => rfl)) (pa_cons (pe_op op_sub (pe_ix ix_tup (pv 5) pe_int (fun _ _ => rfl)) (pv 7)) pa_nil))) pa_nil)))) pss_nil)
        (pss_one (ps_if (pt_cmpR op_gt (pe_ix ix_tup (pv 6) pe_int (fun _ _ => rfl)) (pv 7) (nomark _))
          (pss_one (ps_expr (pe_bm PySem.F.plainAttrs_list PySem.F.slot_list_append PySem.F.type_list_append mt_append (pv 3) (pa_cons (pe_tup (pa_cons (pe_ix ix_tup (pv 6) pe_int (fun _ _ => rfl)) (pa_cons (pe_op op_sub (pe_ix ix_tup (pv 6) pe_int (fun _ _ => rfl)) (pv 7)) pa_nil))) pa_nil)))) pss_nil))))))))
      (pss_one (ps_ret (pv 4)))))), ?_⟩
    refine ⟨_, rfl, a, xs, rfl, hA, fun pl hpl => ?_⟩
    have s1 := same_new (o := .lst xs.reverse) hpl
    refine ⟨_, rfl, b, ys, rfl, s1.seq hB, fun po hpo => ?_⟩
    have n1 : pl ≠ po := fun z => by rw [← z, upd_same] at hpo; cases hpo
    have s2 := s1.trans (same_new (o := .lst ys.reverse) hpo)
    refine ⟨Nat.zero_le _, fun pr hpr => ?_⟩
    have n2 : po ≠ pr := fun z => by rw [← z, upd_same] at hpr; cases hpr
    have n3 : pl ≠ pr := fun z => by rw [← z, upd_ne n1, upd_same] at hpr; cases hpr
    have s3 := s2.trans (same_new (o := .lst []) hpr)
    have hpo0 : H po = none := s1.free hpo
    have hpr0 : H pr = none := s2.free hpr
    let W : Nat → St → Hp → Prop := fun m σ H2 => ∃ va vb zs ra' rb' dn z5 z6 z7, m = List.length ra' + List.length rb' ∧ σ = [some (.ref a), some (.ref b), some (.ref pl), some (.ref po), some (.ref pr), z5, z6, z7] ∧ Same H H2 ∧
      H2 pl = some (.lst (List.reverse va)) ∧ H2 po = some (.lst (List.reverse vb)) ∧ H2 pr = some (.lst zs) ∧ NRsAt H2 va ra' ∧ NRsAt H2 vb rb' ∧ TrsAt H2 zs dn ∧ dn ++ Bk.sbs ra' rb' = Bk.sbs ra rb ∧
      (∀ r ∈ ra', 0 < r.2) ∧ (∀ r ∈ rb', 0 < r.2) ∧ Bk.ntot ra' = Bk.ntot rb' ∧ dn.length + ra'.length + rb'.length ≤ 2000
    refine ⟨W, ⟨_, xs, ys, [], ra, rb, [], none, none, none, rfl, rfl, s3, by rw [upd_ne n3, upd_ne n1, upd_same], by rw [upd_ne n2, upd_same], upd_same, NRsAt.mono hRa s3.tps, NRsAt.mono hRb s3.tps, .nil, rfl, pa, pb, ht, by simpa using hN⟩, ?_⟩
    rintro m σ H2 ⟨va, vb, zs, ra', rb', dn, z5, z6, z7, rfl, rfl, sm, hl, ho, hz, hva, hvb, hdn, heq, pa', pb', ht', hN'⟩
    refine ⟨_, rfl, pl, _, rfl, .inl (SqL.of hl), _, _, rfl, rfl, _, rfl, ?_⟩
    refine ite2 (fun z => ?_) (fun z => ?_)
    · have z1 : (0 : Int) < ((va.reverse).length : Int) := of_decide_eq_true z
      cases hva with
      | nil => simp at z1
      | @cons v rw1 va1 ra1 h1 t1 =>
      cases hvb with
      | nil =>
        have p1 := pa' rw1 (by simp)
        have p2 := Bk.ntot_pos ra1 (fun r hr => pa' r (by simp [hr]))
        simp only [Bk.ntot] at ht'; omega
      | @cons u rw2 vb1 rb1 h2 t2 =>
      obtain ⟨n, l⟩ := rw1
      obtain ⟨n', l'⟩ := rw2
      obtain ⟨q, rfl, hq⟩ := h1
      obtain ⟨q', rfl, hq'⟩ := h2
      have pl0 : 0 < l := pa' (n, l) (by simp)
      have pl1 : 0 < l' := pb' (n', l') (by simp)
      have pa1 : ∀ r ∈ ra1, 0 < r.2 := fun r hr => pa' r (by simp [hr])
      have pb1 : ∀ r ∈ rb1, 0 < r.2 := fun r hr => pb' r (by simp [hr])
      simp only [Bk.ntot] at ht'
      rw [Bk.sbs_cons] at heq
      simp only [List.length_cons] at hN'
      refine ⟨fun σ' H' => ∃ m', m' < ra1.length + 1 + (rb1.length + 1) ∧ W m' σ' H', fun _ _ h => h, ?_⟩
      refine ⟨_, rfl, .inl ⟨rfl, _, SqL.of hl⟩, pl, _, _, rfl, rfl, hl, (pop_rev _ _).1, ?_⟩
      rw [(pop_rev _ _).2]
      have ho3 : upd H2 pl (.lst va1.reverse) po = some (.lst (V.ref q' :: vb1).reverse) := by rw [upd_ne n1.symm]; exact ho
      refine ⟨_, rfl, .inl ⟨rfl, _, SqL.of ho3⟩, po, _, _, rfl, rfl, ho3, (pop_rev _ _).1, ?_⟩
      rw [(pop_rev _ _).2]
      have tp1 := tps_lst (o := .lst va1.reverse) hl
      have tp2 := tps_lst (o := .lst vb1.reverse) ho3
      have tp := tp1.trans tp2
      have sm4 : Same H (upd (upd H2 pl (.lst va1.reverse)) po (.lst vb1.reverse)) := (sm.write hpl).write hpo0
      have hl4 : upd (upd H2 pl (.lst va1.reverse)) po (.lst vb1.reverse) pl = some (.lst va1.reverse) := by rw [upd_ne n1, upd_same]
      have ho4 : upd (upd H2 pl (.lst va1.reverse)) po (.lst vb1.reverse) po = some (.lst vb1.reverse) := upd_same
      have hz4 : upd (upd H2 pl (.lst va1.reverse)) po (.lst vb1.reverse) pr = some (.lst zs) := by rw [upd_ne n2.symm, upd_ne n3.symm]; exact hz
      have hq4 := tp _ _ hq
      have hq4' := tp _ _ hq'
      have t14 := NRsAt.mono t1 tp
      have t24 := NRsAt.mono t2 tp
      have hd4 := TrsAt.mono hdn tp
      clear tp tp1 tp2 hdn hl ho hz hq hq' t1 t2 ho3 sm
      generalize upd (upd H2 pl (.lst va1.reverse)) po (.lst vb1.reverse) = H4 at *
      refine ⟨_, rfl, q, _, 1, _, rfl, rfl, SqT.of hq4, rfl, _, rfl, q', _, 1, _, rfl, rfl, SqT.of hq4', rfl, _, _, rfl, ?_⟩
      rw [min_eq]
      refine ⟨_, rfl, .inl ⟨rfl, _, SqL.of hz4⟩, _, rfl, q, _, 0, _, rfl, rfl, SqT.of hq4, rfl, _, rfl, q', _, 0, _, rfl, rfl, SqT.of hq4', rfl, _, rfl, by show 3 ≤ sizeLine; decide, fun Z hZ => ?_⟩
      have nZ : pr ≠ Z := fun w => by rw [← w, hz4] at hZ; cases hZ
      have nZl : pl ≠ Z := fun w => by rw [← w, hl4] at hZ; cases hZ
      have nZo : po ≠ Z := fun w => by rw [← w, ho4] at hZ; cases hZ
      have hz5 : upd H4 Z (.tup [n, n', .int (min l l')]) pr = some (.lst zs) := by rw [upd_ne nZ]; exact hz4
      have lz := Paired.length hd4
      refine ⟨pr, zs, _, rfl, rfl, hz5, Nat.lt_of_le_of_lt (m := 2000) (by omega) (by decide), ?_⟩
      have tp1 := tps_new (o := .tup [n, n', .int (min l l')]) hZ
      have tp2 := tps_lst (o := .lst (zs ++ [.ref Z])) hz5
      have tp := tp1.trans tp2
      have sm5 : Same H (upd (upd H4 Z (.tup [n, n', .int (min l l')])) pr (.lst (zs ++ [.ref Z]))) := (sm4.trans (same_new hZ)).write hpr0
      have hl5 : upd (upd H4 Z (.tup [n, n', .int (min l l')])) pr (.lst (zs ++ [.ref Z])) pl = some (.lst va1.reverse) := by rw [upd_ne n3, upd_ne nZl]; exact hl4
      have ho5 : upd (upd H4 Z (.tup [n, n', .int (min l l')])) pr (.lst (zs ++ [.ref Z])) po = some (.lst vb1.reverse) := by rw [upd_ne n2, upd_ne nZo]; exact ho4
      have hz6 : upd (upd H4 Z (.tup [n, n', .int (min l l')])) pr (.lst (zs ++ [.ref Z])) pr = some (.lst (zs ++ [.ref Z])) := upd_same
      have hq5 := tp _ _ hq4
      have hq5' := tp _ _ hq4'
      have t15 := NRsAt.mono t14 tp
      have t25 := NRsAt.mono t24 tp
      have hd5 : TrsAt (upd (upd H4 Z (.tup [n, n', .int (min l l')])) pr (.lst (zs ++ [.ref Z]))) (zs ++ [.ref Z]) (dn ++ [(n, n', min l l')]) :=
        paired_snoc (TrsAt.mono hd4 tp) ⟨Z, rfl, by rw [upd_ne nZ.symm, upd_same]⟩
      clear tp tp1 tp2 hd4 hl4 ho4 hz4 hz5 hq4 hq4' t14 t24 sm4
      generalize upd (upd H4 Z (.tup [n, n', .int (min l l')])) pr (.lst (zs ++ [.ref Z])) = H5 at *
      have lv1 := Paired.length t15
      have lv2 := Paired.length t25
      refine ⟨_, rfl, q, _, 1, _, rfl, rfl, SqT.of hq5, rfl, _, rfl, _, _, rfl, rfl, _, rfl, ?_⟩
      refine ite2 (fun y => ?_) (fun y => ?_)
      · have y1 : min l l' < l := of_decide_eq_true y
        refine ⟨_, rfl, .inl ⟨rfl, _, SqL.of hl5⟩, _, rfl, q, _, 0, _, rfl, rfl, SqT.of hq5, rfl, _, rfl, q, _, 1, _, rfl, rfl, SqT.of hq5, rfl, _, rfl, _, _, rfl, rfl, by show 2 ≤ sizeLine; decide, fun Y hY => ?_⟩
        have nY : pl ≠ Y := fun w => by rw [← w, hl5] at hY; cases hY
        have nYo : po ≠ Y := fun w => by rw [← w, ho5] at hY; cases hY
        have nYr : pr ≠ Y := fun w => by rw [← w, hz6] at hY; cases hY
        have hl6 : upd H5 Y (.tup [n, .int (l - min l l')]) pl = some (.lst va1.reverse) := by rw [upd_ne nY]; exact hl5
        refine ⟨pl, _, _, rfl, rfl, hl6, Nat.lt_of_le_of_lt (m := 2000) (by rw [List.length_reverse]; omega) (by decide), ?_⟩
        have tp := (tps_new (o := .tup [n, .int (l - min l l')]) hY).trans (tps_lst (o := .lst (va1.reverse ++ [.ref Y])) hl6)
        have ev : va1.reverse ++ [V.ref Y] = (V.ref Y :: va1).reverse := by simp
        refine ⟨_, rfl, q', _, 1, _, rfl, rfl, SqT.of (tp _ _ hq5'), rfl, _, rfl, _, _, rfl, rfl, _, rfl, ?_⟩
        refine ite2 (fun x => absurd (of_decide_eq_true x : min l l' < l') (by omega)) (fun _ => ?_)
        refine ⟨ra1.length + 1 + rb1.length, by omega, V.ref Y :: va1, vb1, _, (n, l - min l l') :: ra1, rb1, _, _, _, _, by simp, rfl, (sm5.trans (same_new hY)).write hpl, by rw [upd_same, ev], by rw [upd_ne n1.symm, upd_ne nYo]; exact ho5, by rw [upd_ne n3.symm, upd_ne nYr]; exact hz6,
          .cons ⟨Y, rfl, by rw [upd_ne nY.symm, upd_same]⟩ (NRsAt.mono t15 tp), NRsAt.mono t25 tp, TrsAt.mono hd5 tp, ?_, fun r hr => ?_, pb1, ?_, ?_⟩
        · rw [List.append_assoc, List.singleton_append, ← heq, if_pos (by omega), show min l l' = l' by omega]
        · rcases List.mem_cons.mp hr with e | e
          · rw [e]; show 0 < l - min l l'; omega
          · exact pa1 r e
        · simp only [Bk.ntot]; omega
        · simp only [List.length_append, List.length_cons, List.length_nil]; omega
      · have y1 : ¬ min l l' < l := fun w => y (decide_eq_true w)
        refine ⟨_, rfl, q', _, 1, _, rfl, rfl, SqT.of hq5', rfl, _, rfl, _, _, rfl, rfl, _, rfl, ?_⟩
        refine ite2 (fun x => ?_) (fun x => ?_)
        · have x1 : min l l' < l' := of_decide_eq_true x
          refine ⟨_, rfl, .inl ⟨rfl, _, SqL.of ho5⟩, _, rfl, q', _, 0, _, rfl, rfl, SqT.of hq5', rfl, _, rfl, q', _, 1, _, rfl, rfl, SqT.of hq5', rfl, _, rfl, _, _, rfl, rfl, by show 2 ≤ sizeLine; decide, fun Y hY => ?_⟩
          have nY : po ≠ Y := fun w => by rw [← w, ho5] at hY; cases hY
          have nYl : pl ≠ Y := fun w => by rw [← w, hl5] at hY; cases hY
          have nYr : pr ≠ Y := fun w => by rw [← w, hz6] at hY; cases hY
          have ho6 : upd H5 Y (.tup [n', .int (l' - min l l')]) po = some (.lst vb1.reverse) := by rw [upd_ne nY]; exact ho5
          refine ⟨po, _, _, rfl, rfl, ho6, Nat.lt_of_le_of_lt (m := 2000) (by rw [List.length_reverse]; omega) (by decide), ?_⟩
          have tp := (tps_new (o := .tup [n', .int (l' - min l l')]) hY).trans (tps_lst (o := .lst (vb1.reverse ++ [.ref Y])) ho6)
          have ev : vb1.reverse ++ [V.ref Y] = (V.ref Y :: vb1).reverse := by simp
          refine ⟨ra1.length + (rb1.length + 1), by omega, va1, V.ref Y :: vb1, _, ra1, (n', l' - min l l') :: rb1, _, _, _, _, by simp, rfl, (sm5.trans (same_new hY)).write hpo0, by rw [upd_ne n1, upd_ne nYl]; exact hl5, by rw [upd_same, ev], by rw [upd_ne n2.symm, upd_ne nYr]; exact hz6,
            NRsAt.mono t15 tp, .cons ⟨Y, rfl, by rw [upd_ne nY.symm, upd_same]⟩ (NRsAt.mono t25 tp), TrsAt.mono hd5 tp, ?_, pa1, fun r hr => ?_, ?_, ?_⟩
          · rw [List.append_assoc, List.singleton_append, ← heq, if_neg (by omega), if_pos (by omega), show min l l' = l by omega]
          · rcases List.mem_cons.mp hr with e | e
            · rw [e]; show 0 < l' - min l l'; omega
            · exact pb1 r e
          · simp only [Bk.ntot]; omega
          · simp only [List.length_append, List.length_cons, List.length_nil]; omega
        · have x1 : ¬ min l l' < l' := fun w => x (decide_eq_true w)
          refine ⟨ra1.length + rb1.length, by omega, va1, vb1, _, ra1, rb1, _, _, _, _, rfl, rfl, sm5, hl5, ho5, hz6, t15, t25, hd5, ?_, pa1, pb1, by omega, ?_⟩
          · rw [List.append_assoc, List.singleton_append, ← heq, if_neg (by omega), if_neg (by omega)]
          · simp only [List.length_append, List.length_cons, List.length_nil]; omega
    · have z1 : ¬ (0 : Int) < ((va.reverse).length : Int) := fun w => z (decide_eq_true w)
      cases hva with
      | cons h1 t1 => simp at z1
      | nil =>
        refine ⟨_, rfl, k pr zs H2 sm hpr0 hz ?_⟩
        rw [Bk.sbs_nil, List.append_nil] at heq
        rw [← heq]
        exact hdn
end
end Q7

set_option linter.all false
namespace Fr
open Bk
noncomputable abbrev Pc : Type := Int × Int
noncomputable abbrev Tr : Type := Int × Int × Int
noncomputable def tag (h : Int) (s : List Pc) : List Tr := s.map fun p => (p.1, p.2, h)
noncomputable def trips : Int → List (List Pc) → List Tr
  | _, [] => []
  | h, s :: t => tag h s ++ trips (h + 1) t
noncomputable def cover (w : Int) : Int → List Tr → Bool
  | r, [] => decide (r = w)
  | r, p :: t => if p.1 ≠ r ∨ p.2.1 ≤ p.1 then false else cover w p.2.1 t
noncomputable def chain (w : Int) : Int → List Tr → Bool
  | r, [] => decide (r = w)
  | r, p :: t => if p.1 ≠ r then false else chain w p.2.1 t
noncomputable def apart : List Pc → Bool
  | [] => true
  | [_] => true
  | a :: b :: t => decide (a.2 < b.1) && apart (b :: t)
noncomputable def okS : Int → List Pc → Bool
  | _, [] => true
  | b, p :: t => if p.1 ≤ b ∨ p.2 ≤ p.1 then false else okS p.2 t
theorem mem_trips : ∀ {S : List (List Pc)} {h : Int} {s : List Pc} {p : Pc}, s ∈ S → p ∈ s → ∃ k, (p.1, p.2, k) ∈ trips h S
  | s :: t, h, s', p, hs, hp => by
    rcases List.mem_cons.mp hs with e | hs
    · subst e; exact ⟨h, List.mem_append_left _ (List.mem_map.mpr ⟨p, hp, rfl⟩)⟩
    · obtain ⟨k, hk⟩ := mem_trips (h := h + 1) hs hp
      exact ⟨k, List.mem_append_right _ hk⟩
theorem trips_mem : ∀ {S : List (List Pc)} {h : Int} {q : Tr}, q ∈ trips h S → ∃ s ∈ S, (q.1, q.2.1) ∈ s
  | s :: t, h, q, hq => by
    rcases List.mem_append.mp hq with e | e
    · obtain ⟨p, hp, rfl⟩ := List.mem_map.mp e
      exact ⟨s, List.mem_cons_self, hp⟩
    · obtain ⟨s', h1, h2⟩ := trips_mem e
      exact ⟨s', List.mem_cons_of_mem _ h1, h2⟩
theorem trips_heir : ∀ {S : List (List Pc)} {h : Int} {q : Tr}, q ∈ trips h S → h ≤ q.2.2 ∧ q.2.2 < h + S.length
  | s :: t, h, q, hq => by
    rcases List.mem_append.mp hq with e | e
    · obtain ⟨p, hp, rfl⟩ := List.mem_map.mp e
      simp only [List.length_cons]; (first | lia | omega)
    · have := trips_heir e
      simp only [List.length_cons]; (first | lia | omega)
theorem cover_low {w : Int} : ∀ {P : List Tr} {r : Int}, cover w r P = true → (∀ q ∈ P, r ≤ q.1 ∧ q.1 < q.2.1) ∧ chain w r P = true
  | [], r, h => ⟨by simp, h⟩
  | p :: t, r, h => by
    simp only [cover] at h
    split at h
    · cases h
    · rename_i hn
      obtain ⟨h1, h2⟩ := cover_low h
      have e : p.1 = r := by (first | lia | omega)
      refine ⟨fun q hq => ?_, ?_⟩
      · rcases List.mem_cons.mp hq with e' | hq
        · subst e'; (first | lia | omega)
        · have := h1 q hq; (first | lia | omega)
      · simp only [chain]; rw [if_neg (by (first | lia | omega))]; exact h2
theorem cover_of {w : Int} : ∀ {P : List Tr} {r : Int}, chain w r P = true → (∀ q ∈ P, q.1 < q.2.1) → cover w r P = true
  | [], r, h, _ => h
  | p :: t, r, h, hp => by
    simp only [chain] at h
    split at h
    · cases h
    · rename_i hn
      have := hp p List.mem_cons_self
      simp only [cover]
      rw [if_neg (by (first | lia | omega))]
      exact cover_of h fun q hq => hp q (List.mem_cons_of_mem _ hq)
theorem ok_of : ∀ {s : List Pc} {b : Int}, apart s = true → (∀ p ∈ s, p.1 < p.2) → (∀ p, s.head? = some p → b < p.1) → okS b s = true
  | [], _, _, _, _ => rfl
  | [p], b, _, h, hb => by
    have := h p List.mem_cons_self
    have := hb p rfl
    simp only [okS]; rw [if_neg (by (first | lia | omega))]
  | p :: q :: t, b, ha, h, hb => by
    have h1 := h p List.mem_cons_self
    have h2 := hb p rfl
    simp only [apart, Bool.and_eq_true, decide_eq_true_eq] at ha
    have ih := ok_of (s := q :: t) (b := p.2) ha.2 (fun x hx => h x (List.mem_cons_of_mem _ hx)) (fun x hx => by cases hx; exact ha.1)
    show (if p.1 ≤ b ∨ p.2 ≤ p.1 then false else okS p.2 (q :: t)) = true
    rw [if_neg (by (first | lia | omega))]; exact ih
theorem of_ok : ∀ {s : List Pc} {b : Int}, okS b s = true → apart s = true ∧ (∀ p ∈ s, p.1 < p.2 ∧ b < p.1)
  | [], _, _ => ⟨rfl, by simp⟩
  | [p], b, h => by
    simp only [okS] at h
    split at h
    · cases h
    · refine ⟨rfl, fun q hq => ?_⟩
      rw [List.mem_singleton.mp hq]; (first | lia | omega)
  | p :: q :: t, b, h => by
    have h' : (if p.1 ≤ b ∨ p.2 ≤ p.1 then false else okS p.2 (q :: t)) = true := h
    split at h'
    · cases h'
    · obtain ⟨h1, h2⟩ := of_ok h'
      refine ⟨?_, fun x hx => ?_⟩
      · simp only [apart, Bool.and_eq_true, decide_eq_true_eq]
        exact ⟨(h2 q List.mem_cons_self).2, h1⟩
      · rcases List.mem_cons.mp hx with e | hx
        · subst e; (first | lia | omega)
        · have := h2 x hx; (first | lia | omega)
theorem dealt_eq {S : List (List Pc)} {P : List Tr} (w : Int) (hp : P.Perm (trips 0 S)) : (S.all apart && cover w 0 P) = (S.all (okS (-1)) && chain w 0 P) := by
  apply Bool.eq_iff_iff.mpr
  simp only [Bool.and_eq_true, List.all_eq_true]
  constructor
  · rintro ⟨h1, h2⟩
    obtain ⟨h3, h4⟩ := cover_low h2
    have hs : ∀ s ∈ S, ∀ p ∈ s, 0 ≤ p.1 ∧ p.1 < p.2 := fun s hs p hq => by
      obtain ⟨k, hk⟩ := mem_trips (h := 0) hs hq
      have := h3 _ (hp.mem_iff.mpr hk)
      simpa using this
    refine ⟨fun s hs' => ok_of (h1 s hs') (fun p hq => (hs s hs' p hq).2) (fun p hq => ?_), h4⟩
    have := hs s hs' p (List.mem_of_mem_head? hq)
    (first | lia | omega)
  · rintro ⟨h1, h2⟩
    refine ⟨fun s hs => (of_ok (h1 s hs)).1, cover_of h2 fun q hq => ?_⟩
    obtain ⟨s, hs, hq⟩ := trips_mem (hp.mem_iff.mp hq)
    exact ((of_ok (h1 s hs)).2 _ hq).1
noncomputable def adds (g : Bool) (h : Int) : List (Bool × Int × Int) → Int
  | [] => 0
  | p :: t => (if p.1 = g ∧ p.2.1 = h then p.2.2 else 0) + adds g h t
theorem adds_append (g : Bool) (h : Int) : ∀ a b, adds g h (a ++ b) = adds g h a + adds g h b
  | [], b => by simp [adds]
  | p :: t, b => by simp only [List.cons_append, adds, adds_append g h t b]; (first | lia | omega)
noncomputable def own (F : Int → Int) (h : Int) : Int → List (Int × Int) → Int
  | _, [] => 0
  | b, p :: t => (if p.1 = h then F (b + p.2) - F b else 0) + own F h (b + p.2) t
theorem own_congr {F G : Int → Int} {h c : Int} : ∀ {y : List (Int × Int)} {b : Int}, (∀ p, b ≤ p → F p = G p + c) → (∀ r ∈ y, 0 ≤ r.2) → own F h b y = own G h b y
  | [], _, _, _ => rfl
  | r :: t, b, H, hn => by
    have h0 := hn r List.mem_cons_self
    have ih := own_congr (h := h) (y := t) (b := b + r.2) (fun p hp => H p (by (first | lia | omega))) (fun x hx => hn x (List.mem_cons_of_mem _ hx))
    simp only [own, ih]
    rw [H b (Int.le_refl _), H (b + r.2) (by (first | lia | omega))]
    split <;> (first | lia | omega)
theorem cum_cons (g : Bool) (x b : Int) (r : Rw) (t : List Rw) : cum g x b (r :: t) = (if r.1 = g then max (min r.2 (x - b)) 0 else 0) + cum g x (b + r.2) t := rfl
theorem adds_sbs (g : Bool) (h : Int) : ∀ (n : Nat) (x : List Rw) (y : List (Int × Int)) (b : Int), x.length + y.length ≤ n → (∀ r ∈ x, 0 < r.2) → (∀ r ∈ y, 0 < r.2) → tot x = ntot y →
    adds g h (sbs x y) = own (fun p => cum g p b x) h b y
  | _, [], y, b, _, _, hy, e => by
    have : y = [] := by
      cases y with
      | nil => rfl
      | cons q t =>
        have h1 := hy q List.mem_cons_self
        have h2 : ∀ l : List (Int × Int), (∀ r ∈ l, 0 < r.2) → 0 ≤ ntot l := by
          intro l
          induction l with
          | nil => intro _; simp [ntot]
          | cons r l ih => intro hl; have := ih fun z hz => hl z (List.mem_cons_of_mem _ hz); have := hl r List.mem_cons_self; simp only [ntot]; (first | lia | omega)
        have h3 := h2 t fun z hz => hy z (List.mem_cons_of_mem _ hz)
        simp only [tot, ntot] at e; (first | lia | omega)
    subst this
    rw [sbs_nil]; rfl
  | _, p :: x, [], b, _, hx, _, e => by
    have h1 := hx p List.mem_cons_self
    have h3 := tot_nonneg x fun z hz => Int.le_of_lt (hx z (List.mem_cons_of_mem _ hz))
    simp only [tot, ntot] at e; (first | lia | omega)
  | 0, p :: x, q :: y, _, hl, _, _, _ => by simp at hl
  | n + 1, (a, l) :: x, (k, m) :: y, b, hl, hx, hy, e => by
    simp only [List.length_cons] at hl
    have l0 : 0 < l := hx (a, l) List.mem_cons_self
    have m0 : 0 < m := hy (k, m) List.mem_cons_self
    have hx' : ∀ r ∈ x, 0 < r.2 := fun z hz => hx z (List.mem_cons_of_mem _ hz)
    have hy' : ∀ r ∈ y, 0 < r.2 := fun z hz => hy z (List.mem_cons_of_mem _ hz)
    have nx : ∀ r ∈ x, 0 ≤ r.2 := fun z hz => Int.le_of_lt (hx' z hz)
    have ny : ∀ r ∈ y, 0 ≤ r.2 := fun z hz => Int.le_of_lt (hy' z hz)
    simp only [tot, ntot] at e
    rw [sbs_cons]
    simp only [adds]
    have z0 : cum g b b ((a, l) :: x) = 0 := cum_low g b _ b (fun r hr => by rcases List.mem_cons.mp hr with e | e; subst e; exact Int.le_of_lt l0; exact nx r e) (Int.le_refl _)
    by_cases h1 : m < l
    · rw [if_pos h1]
      have ih := adds_sbs g h n ((a, l - m) :: x) y (b + m) (by simp only [List.length_cons]; (first | lia | omega)) (fun r hr => by rcases List.mem_cons.mp hr with e | e; subst e; show 0 < l - m; (first | lia | omega); exact hx' r e) hy' (by simp only [tot]; (first | lia | omega))
      rw [ih]
      have z : ∀ p, b + m ≤ p → cum g p b ((a, l) :: x) = cum g p (b + m) ((a, l - m) :: x) + (if a = g then m else 0) := fun p hp => by
        rw [cum_cons, cum_cons]
        simp only
        rw [show b + m + (l - m) = b + l by (first | lia | omega)]
        split <;> (first | lia | omega)
      simp only [own]
      rw [own_congr (F := fun p => cum g p b ((a, l) :: x)) (G := fun p => cum g p (b + m) ((a, l - m) :: x)) (c := if a = g then m else 0) z ny, z0, z _ (Int.le_refl _)]
      have z1 : cum g (b + m) (b + m) ((a, l - m) :: x) = 0 := cum_low g _ _ _ (fun r hr => by rcases List.mem_cons.mp hr with e | e; subst e; show 0 ≤ l - m; (first | lia | omega); exact nx r e) (Int.le_refl _)
      rw [z1, show min l m = m by (first | lia | omega)]
      by_cases c1 : a = g <;> by_cases c2 : k = h <;> simp [c1, c2]
    · rw [if_neg h1]
      have zl : cum g (b + l) (b + l) x = 0 := cum_low g _ _ _ nx (Int.le_refl _)
      have z : ∀ p, b + l ≤ p → cum g p b ((a, l) :: x) = cum g p (b + l) x + (if a = g then l else 0) := fun p hp => by
        rw [cum_cons]
        simp only
        split <;> (first | lia | omega)
      by_cases h2 : l < m
      · rw [if_pos h2]
        have ih := adds_sbs g h n x ((k, m - l) :: y) (b + l) (by simp only [List.length_cons]; (first | lia | omega)) hx' (fun r hr => by rcases List.mem_cons.mp hr with e | e; subst e; show 0 < m - l; (first | lia | omega); exact hy' r e) (by simp only [ntot]; (first | lia | omega))
        rw [ih]
        simp only [own]
        rw [show b + l + (m - l) = b + m by (first | lia | omega), zl, z0, z (b + m) (by (first | lia | omega)), own_congr (F := fun p => cum g p b ((a, l) :: x)) (G := fun p => cum g p (b + l) x) (c := if a = g then l else 0) (fun p hp => z p (by (first | lia | omega))) ny, show min l m = l by (first | lia | omega)]
        by_cases c1 : a = g <;> by_cases c2 : k = h <;> simp [c1, c2] <;> (first | lia | omega)
      · have em : m = l := by (first | lia | omega)
        subst em
        rw [if_neg h2]
        have ih := adds_sbs g h n x y (b + m) (by (first | lia | omega)) hx' hy' (by (first | lia | omega))
        rw [ih]
        simp only [own]
        rw [z0, z (b + m) (by (first | lia | omega)), own_congr (F := fun p => cum g p b ((a, m) :: x)) (G := fun p => cum g p (b + m) x) (c := if a = g then m else 0) (fun p hp => z p (by (first | lia | omega))) ny, zl, show min m m = m by (first | lia | omega)]
        by_cases c1 : a = g <;> by_cases c2 : k = h <;> simp [c1, c2]
end Fr

set_option linter.all false
namespace Fr
open Bk
noncomputable def pc (t : Tr) : Pc := (t.1, t.2.1)
noncomputable def ow (t : Tr) : Int × Int := (t.2.2, t.2.1 - t.1)
noncomputable def jput (acc : List Tr) (q : Tr) : List Tr := match acc.getLast? with
  | some p => if p.2.2 = q.2.2 then acc.dropLast ++ [(p.1, q.2.1, q.2.2)] else acc ++ [q]
  | none => [q]
theorem jput_nil (q : Tr) : jput [] q = [q] := rfl
theorem jput_snoc (i : List Tr) (p q : Tr) : jput (i ++ [p]) q = if p.2.2 = q.2.2 then i ++ [(p.1, q.2.1, q.2.2)] else i ++ [p] ++ [q] := by
  unfold jput; simp
noncomputable def jp (acc : List Pc) (q : Pc) : List Pc := match acc.getLast? with
  | some p => if p.2 = q.1 then acc.dropLast ++ [(p.1, q.2)] else acc ++ [q]
  | none => [q]
theorem jp_nil (q : Pc) : jp [] q = [q] := rfl
theorem jp_snoc (i : List Pc) (p q : Pc) : jp (i ++ [p]) q = if p.2 = q.1 then i ++ [(p.1, q.2)] else i ++ [p] ++ [q] := by
  unfold jp; simp
noncomputable def joinS (ps : List Pc) : List Pc := ps.foldl jp []
theorem joinS_snoc (ps : List Pc) (q : Pc) : joinS (ps ++ [q]) = jp (joinS ps) q := by simp [joinS]
theorem jp_length (acc : List Pc) (q : Pc) : (jp acc q).length ≤ acc.length + 1 := by
  rcases snoc_cases acc with rfl | ⟨i, p, rfl⟩
  · simp [jp]
  · rw [jp_snoc]; split <;> simp
theorem joinS_length (ps : List Pc) : (joinS ps).length ≤ ps.length := by
  have : ∀ (l acc : List Pc), (l.foldl jp acc).length ≤ acc.length + l.length := by
    intro l
    induction l with
    | nil => intro acc; simp
    | cons q l ih => intro acc; have := ih (jp acc q); have := jp_length acc q; simp only [List.foldl_cons, List.length_cons]; (first | lia | omega)
  have := this ps []
  simpa [joinS] using this
inductive Al : Int → List Tr → List Tr → Prop where
  | nil : Al 0 [] []
  | snoc {e e' h : Int} {Q J : List Tr} : Al e Q J → e < e' → Al e' (Q ++ [(e, e', h)]) (jput J (e, e', h))
noncomputable def Ap (a b : Tr) : Prop := a.2.1 ≤ b.1 ∧ (a.2.2 = b.2.2 → a.2.1 < b.1)
theorem cover_snoc {w : Int} {q : Tr} : ∀ {P : List Tr} {r : Int}, cover q.1 r P = true → q.1 < q.2.1 → q.2.1 = w → cover w r (P ++ [q]) = true
  | [], r, h, h1, h2 => by
    have e : r = q.1 := by simpa [cover] using h
    show (if q.1 ≠ r ∨ q.2.1 ≤ q.1 then false else decide (q.2.1 = w)) = true
    rw [if_neg (by (first | lia | omega))]; simp [h2]
  | p :: t, r, h, h1, h2 => by
    have h' : (if p.1 ≠ r ∨ p.2.1 ≤ p.1 then false else cover q.1 p.2.1 t) = true := h
    show (if p.1 ≠ r ∨ p.2.1 ≤ p.1 then false else cover w p.2.1 (t ++ [q])) = true
    split at h'
    · cases h'
    · rename_i hn
      rw [if_neg hn]
      exact cover_snoc h' h1 h2
theorem cover_init {w : Int} {q : Tr} : ∀ {P : List Tr} {r : Int}, cover w r (P ++ [q]) = true → cover q.1 r P = true ∧ q.1 < q.2.1 ∧ q.2.1 = w
  | [], r, h => by
    have h' : (if q.1 ≠ r ∨ q.2.1 ≤ q.1 then false else decide (q.2.1 = w)) = true := h
    split at h'
    · cases h'
    · refine ⟨?_, by (first | lia | omega), by simpa using h'⟩
      simp only [cover, decide_eq_true_eq]; (first | lia | omega)
  | p :: t, r, h => by
    have h' : (if p.1 ≠ r ∨ p.2.1 ≤ p.1 then false else cover w p.2.1 (t ++ [q])) = true := h
    split at h'
    · cases h'
    · rename_i hn
      obtain ⟨a, b, c⟩ := cover_init h'
      refine ⟨?_, b, c⟩
      show (if p.1 ≠ r ∨ p.2.1 ≤ p.1 then false else cover q.1 p.2.1 t) = true
      rw [if_neg hn]; exact a
theorem Al.cover {e : Int} {Q J : List Tr} (h : Al e Q J) : Fr.cover e 0 Q = true ∧ Fr.cover e 0 J = true := by
  induction h with
  | nil => exact ⟨rfl, rfl⟩
  | @snoc e e' h Q J a l ih =>
    refine ⟨cover_snoc (q := (e, e', h)) ih.1 l rfl, ?_⟩
    rcases snoc_cases J with rfl | ⟨i, p, rfl⟩
    · rw [jput_nil]
      exact cover_snoc (P := []) (q := (e, e', h)) ih.2 l rfl
    · rw [jput_snoc]
      obtain ⟨c1, c2, c3⟩ := cover_init ih.2
      split
      · exact cover_snoc (q := (p.1, e', h)) c1 (by show p.1 < e'; (first | lia | omega)) rfl
      · exact cover_snoc (q := (e, e', h)) ih.2 l rfl
theorem Al.inside {e : Int} {Q J : List Tr} (h : Al e Q J) : (∀ x ∈ J, 0 ≤ x.1 ∧ x.1 < x.2.1 ∧ x.2.1 ≤ e) ∧ J.Pairwise Ap := by
  induction h with
  | nil => exact ⟨by simp, List.Pairwise.nil⟩
  | @snoc e e' h Q J a l ih =>
    obtain ⟨h1, h2⟩ := ih
    have cv := a.cover.2
    rcases snoc_cases J with rfl | ⟨i, p, rfl⟩
    · rw [jput_nil]
      have e0 : (0 : Int) = e := by simpa [Fr.cover] using cv
      refine ⟨fun x hx => ?_, List.pairwise_singleton _ _⟩
      rw [List.mem_singleton.mp hx]
      show 0 ≤ e ∧ e < e' ∧ e' ≤ e'
      (first | lia | omega)
    · obtain ⟨c1, c2, c3⟩ := cover_init cv
      have hp := h1 p (by simp)
      rw [List.pairwise_append] at h2
      rw [jput_snoc]
      split
      · rename_i he
        refine ⟨fun x hx => ?_, ?_⟩
        · rcases List.mem_append.mp hx with hx | hx
          · have := h1 x (by simp [hx]); (first | lia | omega)
          · rw [List.mem_singleton.mp hx]
            show 0 ≤ p.1 ∧ p.1 < e' ∧ e' ≤ e'
            (first | lia | omega)
        · rw [List.pairwise_append]
          refine ⟨h2.1, List.pairwise_singleton _ _, fun x hx y hy => ?_⟩
          rw [List.mem_singleton.mp hy]
          have := h2.2.2 x hx p (by simp)
          exact ⟨this.1, fun z => this.2 (by rw [z, he])⟩
      · rename_i he
        refine ⟨fun x hx => ?_, ?_⟩
        · rcases List.mem_append.mp hx with hx | hx
          · have := h1 x hx; (first | lia | omega)
          · rw [List.mem_singleton.mp hx]
            show 0 ≤ e ∧ e < e' ∧ e' ≤ e'
            (first | lia | omega)
        · rw [List.pairwise_append]
          refine ⟨List.pairwise_append.mpr h2, List.pairwise_singleton _ _, fun x hx y hy => ?_⟩
          rw [List.mem_singleton.mp hy]
          rcases List.mem_append.mp hx with hx | hx
          · have q1 := h2.2.2 x hx p (by simp)
            have : x.2.1 < e := by have := q1.1; (first | lia | omega)
            exact ⟨Int.le_of_lt this, fun _ => this⟩
          · rw [List.mem_singleton.mp hx]
            exact ⟨by show p.2.1 ≤ e; (first | lia | omega), fun z => absurd z he⟩
noncomputable def fil (h : Int) (Q : List Tr) : List Pc := (Q.filter fun t => decide (t.2.2 = h)).map pc
theorem fil_append (h : Int) (a b : List Tr) : fil h (a ++ b) = fil h a ++ fil h b := by simp [fil]
theorem fil_one (h : Int) (q : Tr) : fil h [q] = if q.2.2 = h then [pc q] else [] := by
  unfold fil
  by_cases z : q.2.2 = h <;> simp [z]
theorem Al.joined {e : Int} {Q J : List Tr} (h : Al e Q J) (k : Int) : fil k J = joinS (fil k Q) := by
  induction h with
  | nil => rfl
  | @snoc e e' h Q J a l ih =>
    have ins := a.inside
    have cv := a.cover.2
    rw [fil_append, fil_one]
    by_cases hk : h = k
    · rw [if_pos hk, joinS_snoc, ← ih]
      rcases snoc_cases J with rfl | ⟨i, p, rfl⟩
      · rw [jput_nil, fil_one, if_pos hk]; rfl
      · rw [jput_snoc]
        obtain ⟨c1, c2, c3⟩ := cover_init cv
        split
        · rename_i he
          have he' : p.2.2 = h := he
          rw [fil_append, fil_append, fil_one, fil_one, if_pos hk, if_pos (by rw [he']; exact hk)]
          show fil k i ++ [(p.1, e')] = jp (fil k i ++ [(p.1, p.2.1)]) (e, e')
          rw [jp_snoc, if_pos c3]
        · rename_i he
          have he' : ¬ p.2.2 = h := he
          rw [fil_append, fil_one, if_pos hk, fil_append, fil_one, if_neg (by rw [← hk]; exact he), List.append_nil]
          show fil k i ++ [(e, e')] = jp (fil k i) (e, e')
          rcases snoc_cases (fil k i) with z | ⟨i', x, z⟩
          · rw [z, jp_nil]; rfl
          · rw [z, jp_snoc, if_neg]
            have hx : x ∈ fil k i := by rw [z]; simp
            unfold fil at hx
            obtain ⟨y, hy, rfl⟩ := List.mem_map.mp hx
            have hy' := (List.mem_filter.mp hy).1
            have := ((List.pairwise_append.mp ins.2).2.2 y hy' p (by simp)).1
            show ¬ y.2.1 = e
            (first | lia | omega)
    · rw [if_neg hk, List.append_nil, ← ih]
      rcases snoc_cases J with rfl | ⟨i, p, rfl⟩
      · rw [jput_nil, fil_one, if_neg hk]; rfl
      · rw [jput_snoc]
        split
        · rename_i he
          have he' : p.2.2 = h := he
          rw [fil_append, fil_append, fil_one, fil_one, if_neg hk, if_neg (by rw [he']; exact hk)]
        · rw [fil_append, fil_one, if_neg hk, List.append_nil]
theorem own_append (F : Int → Int) (h : Int) : ∀ (x y : List (Int × Int)) (b : Int), own F h b (x ++ y) = own F h b x + own F h (b + ntot x) y
  | [], y, b => by simp [own, ntot]
  | r :: t, y, b => by
    simp only [List.cons_append, own, ntot, own_append F h t y (b + r.2)]
    rw [show b + r.2 + ntot t = b + (r.2 + ntot t) by (first | lia | omega)]; (first | lia | omega)
theorem cover_ntot {w : Int} : ∀ {P : List Tr} {r : Int}, cover w r P = true → ntot (P.map ow) = w - r
  | [], r, h => by have : r = w := by simpa [cover] using h
                   simp [ntot, this]
  | p :: t, r, h => by
    simp only [cover] at h
    split at h
    · cases h
    · have := cover_ntot h
      simp only [List.map_cons, ntot, this]
      show p.2.1 - p.1 + (w - p.2.1) = w - r
      (first | lia | omega)
theorem Al.own {e : Int} {Q J : List Tr} (a : Al e Q J) (F : Int → Int) (k : Int) : Fr.own F k 0 (J.map ow) = Fr.own F k 0 (Q.map ow) := by
  induction a with
  | nil => rfl
  | @snoc e e' h Q J a l ih =>
    have cv := a.cover
    have nQ := cover_ntot cv.1
    have nJ := cover_ntot cv.2
    rw [List.map_append, own_append, nQ, ← ih]
    rcases snoc_cases J with rfl | ⟨i, p, rfl⟩
    · rw [jput_nil]
      have e0 : (0 : Int) = e := by simpa [Fr.cover] using cv.2
      subst e0
      simp [Fr.own]
    · rw [jput_snoc]
      obtain ⟨c1, c2, c3⟩ := cover_init cv.2
      have ni := cover_ntot c1
      split
      · rename_i he
        have he' : p.2.2 = h := he
        rw [List.map_append, List.map_append, own_append, own_append, ni]
        show Fr.own F k 0 (i.map ow) + ((if h = k then F (0 + (p.1 - 0) + (e' - p.1)) - F (0 + (p.1 - 0)) else 0) + 0) = Fr.own F k 0 (i.map ow) + ((if p.2.2 = k then F (0 + (p.1 - 0) + (p.2.1 - p.1)) - F (0 + (p.1 - 0)) else 0) + 0) + ((if h = k then F (0 + (e - 0) + (e' - e)) - F (0 + (e - 0)) else 0) + 0)
        rw [he', c3, show 0 + (p.1 - 0) + (e' - p.1) = e' by (first | lia | omega), show 0 + (p.1 - 0) = p.1 by (first | lia | omega), show p.1 + (e - p.1) = e by (first | lia | omega), show 0 + (e - 0) + (e' - e) = e' by (first | lia | omega), show 0 + (e - 0) = e by (first | lia | omega)]
        split <;> (first | lia | omega)
      · rw [List.map_append, own_append, nJ]
theorem Al.small {e : Int} {Q J : List Tr} (a : Al e Q J) : J.length ≤ Q.length ∧ ∀ x ∈ J, ∃ y ∈ Q, y.2.2 = x.2.2 := by
  induction a with
  | nil => exact ⟨Nat.le_refl _, by simp⟩
  | @snoc e e' h Q J a l ih =>
    obtain ⟨h1, h2⟩ := ih
    rcases snoc_cases J with rfl | ⟨i, p, rfl⟩
    · rw [jput_nil]
      refine ⟨by simp, fun x hx => ⟨(e, e', h), by simp, ?_⟩⟩
      rw [List.mem_singleton.mp hx]
    · rw [jput_snoc]
      split
      · refine ⟨by simp at h1 ⊢; (first | lia | omega), fun x hx => ?_⟩
        rcases List.mem_append.mp hx with hx | hx
        · obtain ⟨y, hy, z⟩ := h2 x (by simp [hx])
          exact ⟨y, by simp [hy], z⟩
        · rw [List.mem_singleton.mp hx]
          exact ⟨(e, e', h), by simp, rfl⟩
      · refine ⟨by simp at h1 ⊢; (first | lia | omega), fun x hx => ?_⟩
        rcases List.mem_append.mp hx with hx | hx
        · obtain ⟨y, hy, z⟩ := h2 x hx
          exact ⟨y, by simp [hy], z⟩
        · rw [List.mem_singleton.mp hx]
          exact ⟨(e, e', h), by simp, rfl⟩
theorem Al.up {e : Int} {Q J : List Tr} (a : Al e Q J) : J.Pairwise fun x y => x.1 < y.1 := by
  obtain ⟨h1, h2⟩ := a.inside
  exact List.Pairwise.imp_of_mem (fun {x y} hx hy z => by have := (h1 x hx).2.1; have := z.1; (first | lia | omega)) h2
theorem sorted_uniq {α : Type} {f : α → Int} {P J : List α} (hp : P.Perm J) (hP : P.Pairwise fun x y => ¬ f y < f x) (hJ : J.Pairwise fun x y => f x < f y) : P = J := by
  refine List.Perm.eq_of_pairwise (le := fun x y => f x ≤ f y) ?_ (hP.imp fun h => by (first | lia | omega)) (hJ.imp fun h => by (first | lia | omega)) hp
  intro a b ha hb h1 h2
  have ha' := hp.mem_iff.mp ha
  obtain ⟨i, hi, rfl⟩ := List.getElem_of_mem ha'
  obtain ⟨j, hj, rfl⟩ := List.getElem_of_mem hb
  have pw := List.pairwise_iff_getElem.mp hJ
  rcases Nat.lt_trichotomy i j with h | h | h
  · have := pw i j hi hj h; (first | lia | omega)
  · subst h; rfl
  · have := pw j i hj hi h; (first | lia | omega)
noncomputable def sharesOf : Int → Nat → List Tr → List (List Pc)
  | _, 0, _ => []
  | h, n + 1, Q => fil h Q :: sharesOf (h + 1) n Q
theorem sharesOf_length : ∀ (n : Nat) (h : Int) (Q : List Tr), (sharesOf h n Q).length = n
  | 0, _, _ => rfl
  | n + 1, h, Q => by simp [sharesOf, sharesOf_length n]
theorem sharesOf_get : ∀ (n : Nat) (h : Int) (Q : List Tr) (k : Nat), k < n → (sharesOf h n Q)[k]? = some (fil (h + k) Q)
  | 0, _, _, k, hk => by (first | lia | omega)
  | n + 1, h, Q, 0, _ => by simp [sharesOf]
  | n + 1, h, Q, k + 1, hk => by
    have := sharesOf_get n (h + 1) Q k (by (first | lia | omega))
    simp only [sharesOf, List.getElem?_cons_succ, this]
    rw [show h + 1 + (k : Int) = h + ((k + 1 : Nat) : Int) by (first | lia | omega)]
theorem sharesOf_snoc {n : Nat} {h : Int} {Q : List Tr} {q : Tr} {k : Nat} (hk : k < n) (e : q.2.2 = h + k) : sharesOf h n (Q ++ [q]) = (sharesOf h n Q).set k (fil (h + k) Q ++ [pc q]) := by
  apply List.ext_getElem?
  intro i
  by_cases hi : i < n
  · rw [sharesOf_get n h _ i hi, fil_append, fil_one, List.getElem?_set]
    by_cases z : k = i
    · subst z
      rw [if_pos rfl, if_pos e, if_pos (by rw [sharesOf_length]; exact hk)]
    · rw [if_neg z, sharesOf_get n h Q i hi, if_neg (by (first | lia | omega)), List.append_nil]
  · rw [List.getElem?_eq_none (by rw [sharesOf_length]; (first | lia | omega)), List.getElem?_eq_none (by rw [List.length_set, sharesOf_length]; (first | lia | omega))]
theorem fil_filter {h k : Int} (Q : List Tr) (n : h ≠ k) : fil k (Q.filter fun t => !decide (t.2.2 = h)) = fil k Q := by
  unfold fil
  rw [List.filter_filter]
  congr 1
  apply List.filter_congr
  intro x _
  by_cases z : x.2.2 = k
  · have : ¬ x.2.2 = h := fun y => n (by (first | lia | omega))
    simp [z]; (first | lia | omega)
  · simp [z]
theorem sharesOf_filter : ∀ (n : Nat) (h k : Int) (Q : List Tr), h < k → sharesOf k n (Q.filter fun t => !decide (t.2.2 = h)) = sharesOf k n Q
  | 0, _, _, _, _ => rfl
  | n + 1, h, k, Q, l => by
    simp only [sharesOf]
    rw [fil_filter Q (by (first | lia | omega)), sharesOf_filter n h (k + 1) Q (by (first | lia | omega))]
theorem tag_fil (h : Int) : ∀ Q : List Tr, tag h (fil h Q) = Q.filter fun t => decide (t.2.2 = h)
  | [] => rfl
  | q :: t => by
    have ih := tag_fil h t
    unfold tag fil at ih ⊢
    rw [List.filter_cons]
    split
    · rename_i z
      have z' : q.2.2 = h := by simpa using z
      simp only [List.map_cons]
      rw [ih]
      congr 1
      rw [← z']; rfl
    · exact ih
theorem trips_perm : ∀ (n : Nat) (h : Int) (J : List Tr), (∀ x ∈ J, h ≤ x.2.2 ∧ x.2.2 < h + n) → (trips h (sharesOf h n J)).Perm J
  | 0, h, J, hj => by
    cases J with
    | nil => exact List.Perm.refl _
    | cons x t => have := hj x (by simp); (first | lia | omega)
  | n + 1, h, J, hj => by
    simp only [sharesOf, trips]
    rw [tag_fil, ← sharesOf_filter n h (h + 1) J (by (first | lia | omega))]
    refine List.Perm.trans (List.Perm.append_left _ (trips_perm n (h + 1) _ fun x hx => ?_)) (List.filter_append_perm _ J)
    have h1 := List.mem_filter.mp hx
    have h2 := hj x h1.1
    have h3 : ¬ x.2.2 = h := by simpa using h1.2
    (first | lia | omega)
theorem apart_of : ∀ {s : List Pc}, (s.Pairwise fun a b => a.2 < b.1) → apart s = true
  | [], _ => rfl
  | [_], _ => rfl
  | a :: b :: t, h => by
    have h' := List.pairwise_cons.mp h
    simp only [apart, Bool.and_eq_true, decide_eq_true_eq]
    exact ⟨h'.1 b (by simp), apart_of h'.2⟩
theorem Al.apart {e : Int} {Q J : List Tr} (a : Al e Q J) (k : Int) : Fr.apart (fil k J) = true := by
  apply apart_of
  unfold fil
  rw [List.pairwise_map]
  refine List.Pairwise.imp_of_mem ?_ (List.Pairwise.filter _ a.inside.2)
  intro x y hx hy z
  have h1 : x.2.2 = k := by simpa using (List.mem_filter.mp hx).2
  have h2 : y.2.2 = k := by simpa using (List.mem_filter.mp hy).2
  exact z.2 (by rw [h1, h2])
theorem sharesOf_mem : ∀ {n : Nat} {h : Int} {Q : List Tr} {s : List Pc}, s ∈ sharesOf h n Q → ∃ k, s = fil k Q
  | n + 1, h, Q, s, hs => by
    rcases List.mem_cons.mp hs with e | e
    · exact ⟨h, e⟩
    · exact sharesOf_mem e
theorem Al.all_apart {e : Int} {Q J : List Tr} (a : Al e Q J) (n : Nat) : (sharesOf 0 n J).all Fr.apart = true := by
  rw [List.all_eq_true]
  intro s hs
  obtain ⟨k, rfl⟩ := sharesOf_mem hs
  exact a.apart k
theorem sharesOf_joined {e : Int} {Q J : List Tr} (a : Al e Q J) : ∀ (n : Nat) (h : Int), sharesOf h n J = (sharesOf h n Q).map joinS
  | 0, _ => rfl
  | n + 1, h => by simp only [sharesOf, List.map_cons, a.joined h, sharesOf_joined a n (h + 1)]
end Fr

set_option linter.all false
namespace Fr
open Bk
noncomputable abbrev Rp : Type := Int × List Rw
noncomputable def rawB : List Rp → List Rw
  | [] => []
  | r :: t => r.2 ++ rawB t
theorem rawB_append : ∀ a b : List Rp, rawB (a ++ b) = rawB a ++ rawB b
  | [], b => rfl
  | r :: t, b => by simp only [List.cons_append, rawB, rawB_append t b, List.append_assoc]
noncomputable def pcsOf : Int → List Rp → List Tr
  | _, [] => []
  | b, r :: t => (b, b + tot r.2, r.1) :: pcsOf (b + tot r.2) t
theorem pcsOf_append : ∀ (a c : List Rp) (b : Int), pcsOf b (a ++ c) = pcsOf b a ++ pcsOf (b + tot (rawB a)) c
  | [], c, b => by simp [pcsOf, rawB, tot]
  | r :: t, c, b => by
    simp only [List.cons_append, pcsOf, rawB, pcsOf_append t c, tot_append]
    rw [show b + tot r.2 + tot (rawB t) = b + (tot r.2 + tot (rawB t)) by (first | lia | omega)]
noncomputable def hs (g : Bool) (h : Int) : List Rp → Int
  | [] => 0
  | r :: t => (if r.1 = h then sm g r.2 else 0) + hs g h t
theorem hs_append (g : Bool) (h : Int) : ∀ a b : List Rp, hs g h (a ++ b) = hs g h a + hs g h b
  | [], b => by simp [hs]
  | r :: t, b => by simp only [List.cons_append, hs, hs_append g h t b]; (first | lia | omega)
noncomputable def Gp (R : List Rp) : Prop := ∀ r ∈ R, (∀ x ∈ r.2, 0 ≤ x.2) ∧ 0 < tot r.2
theorem Gp.rows : ∀ {R : List Rp}, Gp R → ∀ x ∈ rawB R, 0 ≤ x.2
  | [], _, x, hx => by simp [rawB] at hx
  | r :: t, h, x, hx => by
    rcases List.mem_append.mp hx with e | e
    · exact (h r (by simp)).1 x e
    · exact Gp.rows (R := t) (fun y hy => h y (by simp [hy])) x e
theorem cum_app (g : Bool) (x : Int) : ∀ (a c : List Rw) (b : Int), cum g x b (a ++ c) = cum g x b a + cum g x (b + tot a) c
  | [], c, b => by simp [cum, tot]
  | r :: t, c, b => by
    simp only [List.cons_append, cum, tot, cum_app g x t c]
    rw [show b + r.2 + tot t = b + (r.2 + tot t) by (first | lia | omega)]; (first | lia | omega)
theorem own_raw (g : Bool) (h : Int) : ∀ (R : List Rp) (b : Int), Gp R → own (fun p => cum g p b (rawB R)) h b ((pcsOf b R).map ow) = hs g h R
  | [], _, _ => rfl
  | r :: t, b, hR => by
    have h0 := hR r (by simp)
    have hT : Gp t := fun y hy => hR y (by simp [hy])
    have ih := own_raw g h t (b + tot r.2) hT
    have nn := hT.rows
    have z : ∀ p, b + tot r.2 ≤ p → cum g p b (r.2 ++ rawB t) = cum g p (b + tot r.2) (rawB t) + sm g r.2 := fun p hp => by
      rw [cum_app, cum_high g p r.2 b h0.1 hp]; (first | lia | omega)
    have z0 : cum g b b (r.2 ++ rawB t) = 0 := cum_low g b _ b (fun x hx => by rcases List.mem_append.mp hx with e | e; exact h0.1 x e; exact nn x e) (Int.le_refl _)
    simp only [pcsOf, List.map_cons, own, rawB, hs]
    show (if r.1 = h then cum g (b + (b + tot r.2 - b)) b (r.2 ++ rawB t) - cum g b b (r.2 ++ rawB t) else 0) + own (fun p => cum g p b (r.2 ++ rawB t)) h (b + (b + tot r.2 - b)) ((pcsOf (b + tot r.2) t).map ow) = _
    rw [show b + (b + tot r.2 - b) = b + tot r.2 by (first | lia | omega), z0, z _ (Int.le_refl _), cum_low g _ _ _ nn (Int.le_refl _)]
    have pn : ∀ (R : List Rp) (b : Int), Gp R → ∀ q ∈ (pcsOf b R).map ow, 0 ≤ q.2 := by
      intro R
      induction R with
      | nil => intro b _ q hq; simp [pcsOf] at hq
      | cons x R ih =>
        intro b hg q hq
        simp only [pcsOf, List.map_cons] at hq
        rcases List.mem_cons.mp hq with e | e
        · rw [e]; show 0 ≤ b + tot x.2 - b; have := (hg x (by simp)).2; (first | lia | omega)
        · exact ih _ (fun y hy => hg y (by simp [hy])) q e
    rw [own_congr (F := fun p => cum g p b (r.2 ++ rawB t)) (G := fun p => cum g p (b + tot r.2) (rawB t)) (c := sm g r.2) z (pn t _ hT), ih]
    split <;> (first | lia | omega)
theorem al_raw : ∀ {R : List Rp}, Gp R → ∃ J, Al (tot (rawB R)) (pcsOf 0 R) J := by
  intro R
  have : ∀ (n : Nat) (R : List Rp), R.length = n → Gp R → ∃ J, Al (tot (rawB R)) (pcsOf 0 R) J := by
    intro n
    induction n with
    | zero => intro R hl _; cases R with
      | nil => exact ⟨[], .nil⟩
      | cons _ _ => simp at hl
    | succ n ih =>
      intro R hl hg
      rcases List.eq_nil_or_concat R with e | ⟨i, r, e⟩
      · subst e; simp at hl
      · rw [List.concat_eq_append] at e
        subst e
        obtain ⟨J, hJ⟩ := ih i (by simpa using hl) fun y hy => hg y (by simp [hy])
        have h0 := (hg r (by simp)).2
        rw [rawB_append, pcsOf_append, tot_append]
        have := Al.snoc (h := r.1) hJ (e' := tot (rawB i) + tot r.2) (by (first | lia | omega))
        refine ⟨jput J (tot (rawB i), tot (rawB i) + tot r.2, r.1), ?_⟩
        simp only [pcsOf, rawB, List.append_nil, Int.zero_add]
        exact this
  exact this R.length R rfl
theorem pcsOf_length : ∀ (R : List Rp) (b : Int), (pcsOf b R).length = R.length
  | [], _ => rfl
  | r :: t, b => by simp [pcsOf, pcsOf_length t]
theorem pcsOf_heir : ∀ {R : List Rp} {b : Int} {q : Tr}, q ∈ pcsOf b R → ∃ r ∈ R, r.1 = q.2.2
  | r :: t, b, q, hq => by
    simp only [pcsOf] at hq
    rcases List.mem_cons.mp hq with e | e
    · exact ⟨r, by simp, by rw [e]⟩
    · obtain ⟨x, h1, h2⟩ := pcsOf_heir e
      exact ⟨x, by simp [h1], h2⟩
noncomputable def blkRow (d w : Int) (fl : Bool) (j : Nat) : List Rw := if fl = true ∧ j % 2 = 1 then [(false, w), (true, d)] else [(true, d), (false, w)]
noncomputable def blk (n : Nat) (c d w : Int) (fl : Bool) (m : Nat) : List Rp := (List.range m).map fun (j : Nat) => ((c + (j : Int)) % n, blkRow d w fl j)
theorem blk_succ (n : Nat) (c d w : Int) (fl : Bool) (m : Nat) : blk n c d w fl (m + 1) = blk n c d w fl m ++ [((c + m) % n, blkRow d w fl m)] := by
  simp [blk, List.range_succ]
theorem blkRow_sm (g : Bool) (d w : Int) (fl : Bool) (j : Nat) : sm g (blkRow d w fl j) = if g = true then d else w := by
  unfold blkRow
  split <;> cases g <;> simp [sm]
theorem blkRow_tot (d w : Int) (fl : Bool) (j : Nat) : tot (blkRow d w fl j) = d + w := by
  unfold blkRow
  split <;> simp [tot] <;> (first | lia | omega)
theorem hs_blk_sum (g : Bool) (h : Int) (n : Nat) (c d w : Int) (fl : Bool) : ∀ m, hs g h (blk n c d w fl m) = ((List.range m).countP fun (j : Nat) => decide ((c + (j : Int)) % n = h) : Nat) * (if g = true then d else w)
  | 0 => by simp [blk, hs]
  | m + 1 => by
    rw [blk_succ, hs_append, hs_blk_sum g h n c d w fl m, List.range_succ, List.countP_append]
    simp only [hs, blkRow_sm, List.countP_cons, List.countP_nil]
    by_cases z : (c + (m : Int)) % n = h
    · rw [if_pos z]
      simp only [z, decide_true]
      simp only [if_pos, Nat.zero_add, Int.natCast_add, Int.add_mul]
      simp
    · rw [if_neg z]
      simp [z]
theorem count_heir {n : Nat} {c h : Int} (h0 : 0 ≤ h) (h1 : h < n) : ((List.range n).countP fun (j : Nat) => decide ((c + (j : Int)) % n = h)) = 1 := by
  have hn : (0 : Int) < n := by (first | lia | omega)
  have key : ∀ j : Nat, j < n → ((c + (j : Int)) % n = h ↔ j = ((h - c) % n).toNat) := fun j hj => by
    have b0 := Int.emod_nonneg (h - c) (show (n : Int) ≠ 0 by (first | lia | omega))
    have b1 := Int.emod_lt_of_pos (h - c) hn
    constructor
    · intro e
      have : (h - c) % (n : Int) = j := by
        rw [← e, Int.sub_emod, Int.emod_emod_of_dvd _ (Int.dvd_refl _), ← Int.sub_emod, show c + (j : Int) - c = j by (first | lia | omega)]
        exact Int.emod_eq_of_lt (by (first | lia | omega)) (by (first | lia | omega))
      (first | lia | omega)
    · intro e
      have : (j : Int) = (h - c) % n := by (first | lia | omega)
      rw [this, Int.add_emod, Int.emod_emod_of_dvd _ (Int.dvd_refl _), ← Int.add_emod, show c + (h - c) = h by (first | lia | omega)]
      exact Int.emod_eq_of_lt h0 h1
  have b0 := Int.emod_nonneg (h - c) (show (n : Int) ≠ 0 by (first | lia | omega))
  have b1 := Int.emod_lt_of_pos (h - c) hn
  have e : ((List.range n).countP fun (j : Nat) => decide ((c + (j : Int)) % n = h)) = (List.range n).countP fun j => j == ((h - c) % n).toNat := by
    apply List.countP_congr
    intro j hj
    have := key j (List.mem_range.mp hj)
    simp [this]
  rw [e]
  show List.count _ _ = 1
  have nd : (List.range n).Nodup := List.nodup_range
  rw [nd.count, if_pos (List.mem_range.mpr (by (first | lia | omega)))]
theorem hs_blk (g : Bool) {h : Int} {n : Nat} (c d w : Int) (fl : Bool) (h0 : 0 ≤ h) (h1 : h < n) : hs g h (blk n c d w fl n) = if g = true then d else w := by
  rw [hs_blk_sum, count_heir h0 h1]; simp
end Fr

set_option linter.all false
namespace Fr
open Bk
noncomputable def sumL (g : Bool) (n : Nat) (R : List (Bool × Int × Int)) : List Int := (List.range n).map fun (k : Nat) => adds g (k : Int) R
theorem sumL_len (g : Bool) (n : Nat) (R : List (Bool × Int × Int)) : (sumL g n R).length = n := by simp [sumL]
theorem sumL_nil (g : Bool) (n : Nat) : sumL g n [] = List.replicate n 0 := by
  apply List.ext_getElem (by simp [sumL])
  intro i h1 h2
  simp [sumL, adds]
theorem sumL_get {g : Bool} {n : Nat} {R : List (Bool × Int × Int)} {k : Nat} (h : k < n) : (sumL g n R)[k]? = some (adds g (k : Int) R) := by simp [sumL, h]
theorem adds_snoc (g g' : Bool) (h h' l : Int) (R : List (Bool × Int × Int)) : adds g h (R ++ [(g', h', l)]) = adds g h R + (if g' = g ∧ h' = h then l else 0) := by
  rw [adds_append]; simp [adds]
theorem sumL_snoc {g : Bool} {n : Nat} {R : List (Bool × Int × Int)} {k : Nat} {l : Int} (h : k < n) : sumL g n (R ++ [(g, (k : Int), l)]) = (sumL g n R).set k (adds g (k : Int) R + l) := by
  apply List.ext_getElem?
  intro i
  rw [List.getElem?_set]
  by_cases hi : i < n
  · rw [sumL_get hi, adds_snoc]
    by_cases e : k = i
    · subst e; rw [if_pos rfl, if_pos ⟨rfl, rfl⟩, if_pos (by rw [sumL_len]; exact h)]
    · rw [if_neg e, sumL_get hi]
      have : ¬ (g = g ∧ (k : Int) = (i : Int)) := fun z => e (by have := z.2; (first | lia | omega))
      rw [if_neg this]; simp
  · rw [List.getElem?_eq_none (by rw [sumL_len]; (first | lia | omega))]
    by_cases e : k = i
    · (first | lia | omega)
    · rw [if_neg e, List.getElem?_eq_none (by rw [sumL_len]; (first | lia | omega))]
theorem sumL_other {g g' : Bool} {n : Nat} {R : List (Bool × Int × Int)} {h l : Int} (e : g' ≠ g) : sumL g n (R ++ [(g', h, l)]) = sumL g n R := by
  unfold sumL
  apply List.map_congr_left
  intro k _
  rw [adds_snoc, if_neg (fun z => e z.1)]; simp
noncomputable def alike : List Int → Bool
  | [] => true
  | x :: t => t.all (· == x)
noncomputable def dd (σ : List Int) (k : Int) : List Int := if σ.any (· == k) then σ else σ ++ [k]
theorem dd_mem (σ : List Int) (k x : Int) : x ∈ dd σ k ↔ x ∈ σ ∨ x = k := by
  unfold dd
  split
  · rename_i h
    obtain ⟨y, hy, e⟩ := List.any_eq_true.mp h
    have : y = k := by simpa using e
    subst this
    exact ⟨.inl, fun z => z.elim id fun z => z ▸ hy⟩
  · simp
theorem dd_nodup {σ : List Int} (k : Int) (h : σ.Nodup) : (dd σ k).Nodup := by
  unfold dd
  split
  · exact h
  · rename_i hn
    rw [List.nodup_append]
    refine ⟨h, by simp, fun a ha b hb => ?_⟩
    rw [List.mem_singleton.mp hb]
    intro e
    apply hn
    rw [List.any_eq_true]
    exact ⟨a, ha, by simp [e]⟩
theorem fold_dd : ∀ (l σ : List Int), σ.Nodup → (l.foldl dd σ).Nodup ∧ ∀ x, x ∈ l.foldl dd σ ↔ x ∈ σ ∨ x ∈ l
  | [], σ, h => ⟨h, by simp⟩
  | k :: l, σ, h => by
    obtain ⟨h1, h2⟩ := fold_dd l (dd σ k) (dd_nodup k h)
    refine ⟨h1, fun x => ?_⟩
    rw [List.foldl_cons, h2, dd_mem]; simp [or_assoc]
theorem len_le_of_sub : ∀ {a b : List Int}, a.Nodup → (∀ x ∈ a, x ∈ b) → a.length ≤ b.length
  | [], b, _, _ => Nat.zero_le _
  | x :: a, b, hn, h => by
    have hx := h x (by simp)
    have hn' := List.nodup_cons.mp hn
    have ih := len_le_of_sub (a := a) (b := b.erase x) hn'.2 fun y hy => by
      have hy' := h y (by simp [hy])
      have ne : y ≠ x := fun e => hn'.1 (e ▸ hy)
      exact (List.mem_erase_of_ne ne).mpr hy'
    rw [List.length_erase_of_mem hx] at ih
    have : 0 < b.length := List.length_pos_of_mem hx
    simp only [List.length_cons]; (first | lia | omega)
theorem alike_dd (l : List Int) : decide ((l.foldl dd []).length ≤ 1) = alike l := by
  obtain ⟨h1, h2⟩ := fold_dd l [] List.nodup_nil
  apply Bool.eq_iff_iff.mpr
  rw [decide_eq_true_eq]
  cases l with
  | nil => simp [alike]
  | cons x t =>
    simp only [alike, List.all_eq_true, beq_iff_eq]
    constructor
    · intro hl y hy
      have mx : x ∈ (x :: t).foldl dd [] := (h2 x).mpr (.inr (by simp))
      have my : y ∈ (x :: t).foldl dd [] := (h2 y).mpr (.inr (by simp [hy]))
      generalize (x :: t).foldl dd [] = r at hl mx my
      match r, hl, mx, my with
      | [z], _, mx, my => rw [List.mem_singleton.mp mx, List.mem_singleton.mp my]
    · intro h
      have := len_le_of_sub (b := [x]) h1 fun y hy => by
        rcases (h2 y).mp hy with z | z
        · simp at z
        · rcases List.mem_cons.mp z with e | e
          · simp [e]
          · simp [h y e]
      simpa using this
theorem sorted_same {a b : List Int} (pa : a.Pairwise (· ≤ ·)) (pb : b.Pairwise (· ≤ ·)) (na : a.Nodup) (nb : b.Nodup) (h : ∀ x, x ∈ a ↔ x ∈ b) : a = b := by
  have p : a.Perm b := (List.perm_ext_iff_of_nodup na nb).mpr h
  exact List.Perm.eq_of_pairwise (le := fun x y => x ≤ y) (fun x y _ _ h1 h2 => Int.le_antisymm h1 h2) pa pb p
noncomputable def WS (bank : List Rw) (at' : Nat) (left : Int) (X : List Rw) : Prop :=
  ∃ g l, bank[at']? = some (g, l) ∧ ((0 < left ∧ X = (g, left) :: bank.drop (at' + 1)) ∨ (left = 0 ∧ X = [] ∧ at' + 1 = bank.length))
theorem WS.first {g : Bool} {l : Int} {t : List Rw} (h : 0 < l) : WS ((g, l) :: t) 0 l ((g, l) :: t) := ⟨g, l, rfl, .inl ⟨h, by simp⟩⟩
theorem WS.pos {bank X : List Rw} {a : Nat} {left : Int} (h : WS bank a left X) (n : X ≠ []) : ∃ g l, bank[a]? = some (g, l) ∧ 0 < left ∧ X = (g, left) :: bank.drop (a + 1) := by
  obtain ⟨g, l, h1, h2⟩ := h
  rcases h2 with ⟨h2, h3⟩ | ⟨_, h3, _⟩
  · exact ⟨g, l, h1, h2, h3⟩
  · exact absurd h3 n
theorem WS.step {bank : List Rw} {a : Nat} {left p : Int} {g : Bool} {l : Int} (hb : ∀ r ∈ bank, 0 < r.2) (h : bank[a]? = some (g, l)) (hp : 0 < p) (hl : p ≤ left) :
    WS bank (if left - p = 0 ∧ a + 1 < bank.length then a + 1 else a) (if left - p = 0 ∧ a + 1 < bank.length then (bank.getD (a + 1) (true, 0)).2 else left - p) (if p < left then (g, left - p) :: bank.drop (a + 1) else bank.drop (a + 1)) := by
  have ha : a < bank.length := (List.getElem?_eq_some_iff.mp h).1
  by_cases e : left - p = 0
  · rw [if_neg (show ¬ p < left by (first | lia | omega))]
    by_cases e2 : a + 1 < bank.length
    · rw [if_pos ⟨e, e2⟩, if_pos ⟨e, e2⟩]
      have hq : bank[a + 1]? = some bank[a + 1] := List.getElem?_eq_getElem e2
      have ed : bank.drop (a + 1) = bank[a + 1] :: bank.drop (a + 1 + 1) := List.drop_eq_getElem_cons e2
      have eg : bank.getD (a + 1) (true, 0) = bank[a + 1] := by simp [List.getD_eq_getElem?_getD, hq]
      rw [eg, ed]
      refine ⟨bank[a + 1].1, bank[a + 1].2, hq, .inl ⟨hb _ (List.getElem_mem e2), rfl⟩⟩
    · rw [if_neg (fun z => e2 z.2), if_neg (fun z => e2 z.2)]
      exact ⟨g, l, h, .inr ⟨e, List.drop_of_length_le (by (first | lia | omega)), by (first | lia | omega)⟩⟩
  · rw [if_neg (fun z => e z.1), if_neg (fun z => e z.1), if_pos (by (first | lia | omega))]
    exact ⟨g, l, h, .inl ⟨by (first | lia | omega), rfl⟩⟩
theorem sbs_step {α β : Type} (g : α) (left : Int) (r : List (α × Int)) (h : β) (need : Int) (s : List (β × Int)) (p : Int) (hp : p = min need left) :
    sbs ((g, left) :: r) ((h, need) :: s) = (g, h, p) :: sbs (if p < left then (g, left - p) :: r else r) (if p < need then (h, need - p) :: s else s) := by
  rw [sbs_cons, show min left need = p by (first | lia | omega)]
  congr 1
  by_cases h1 : need < left
  · have e : p = need := by (first | lia | omega)
    subst e
    rw [if_pos h1, if_pos h1, if_neg (show ¬ p < p by (first | lia | omega))]
  · rw [if_neg h1]
    by_cases h2 : left < need
    · have e : p = left := by (first | lia | omega)
      subst e
      rw [if_pos h2, if_neg (show ¬ p < p by (first | lia | omega)), if_pos h2]
    · rw [if_neg h2, if_neg (by (first | lia | omega)), if_neg (by (first | lia | omega))]
end Fr

set_option Elab.async false
set_option linter.all false
set_option maxRecDepth 100000
set_option maxHeartbeats 4000000
namespace Q7
open PySem L2
noncomputable abbrev sApt : Stmt := top 7
noncomputable abbrev sAlong : Stmt := top 8
noncomputable abbrev sCov : Stmt := top 9
noncomputable abbrev sAlike : Stmt := top 10
theorem cut_tail (vs : List V) : cutV vs (some 1) none = vs.tail := by
  unfold cutV
  cases vs with
  | nil => simp
  | cons v ws =>
    have e1 : HT.sIx (v :: ws).length 0 (some 1) = 1 := by
      have := HT.sIx_nat (v :: ws).length 0 1
      simpa using this
    rw [e1, HT.sIx_none]
    simp
theorem apart_zip' : ∀ ps : List Pc, ((ps.zip ps.tail).map fun q => decide (q.1.2 < q.2.1)).all id = Fr.apart ps
  | [] => rfl
  | [_] => rfl
  | a :: b :: t => by
    have ih := apart_zip' (b :: t)
    simp only [List.tail_cons, List.zip_cons_cons, List.map_cons, List.all_cons, Fr.apart, id] at ih ⊢
    rw [← ih]
section
variable {P : Program} {w : World} {K : PySem.W.Frag} {mg : Str → Option Value} {base : Heap}
seal L2.PSs L2.PS L2.PE L2.PA L2.PT L2.PW
noncomputable def spApt : Sp := fun vs H Q _ => ∃ a ps, vs = [.ref a] ∧ ShAt H a ps ∧ ps.length ≤ 300 ∧ ∀ H', Same H H' → Q (.bl (Fr.apart ps)) H'
theorem scApt : FnScope ["share"] ["share"] (defScope sApt) := ⟨rfl, rfl, rfl, by decide +kernel, rfl, by decide +kernel, by decide +kernel⟩
theorem ok_apt {f : Addr} {fd : FuncData} (F : FunG K "apart_in_order" "apart_in_order" sApt f fd .none) (T : Py mg) : FnOk P w K mg base CX0 1 f fd ["share"] spApt := by
  refine F.ok scApt (fun vs H Q E h => ?_) (fun cdv A outer s H vs Q E hr h => ?_)
  · obtain ⟨_, _, rfl, _⟩ := h; rfl
  · obtain ⟨a, ps, rfl, ⟨xs, ha, hP⟩, hl, k⟩ := h
    refine ⟨_, pss_one (ps_ret (pe_callB (call_all rfl) rfl T.all PyProof.Rows.boot_all (pa_cons (pe_comp (Nc := ["ahead", "piece"]) (fv := [none, none]) ⟨rfl, by decide +kernel, rfl, by decide +kernel, trivial, by decide +kernel, rfl, trivial⟩ rfl
        (pi_zip rfl T.zip (pa_cons (pv 0) (pa_cons (pe_slice sl_list (pv 0) (po_some pe_int) po_none) pa_nil)))
        (fun _ _ _ _ _ => pg_tupK (K := K) (n := 2) rfl rfl (pgs_cons (pg_name (i := 0) (show (["ahead", "piece"] : List Str).Nodup by decide +kernel) rfl (Or.inl rfl)) (pgs_cons (pg_name (i := 1) (show (["ahead", "piece"] : List Str).Nodup by decide +kernel) rfl (Or.inl rfl)) pgs_nil)))
        (fun _ _ _ _ _ => pif_nil) (fun _ _ _ _ _ => pe_cmpR op_lt (pe_ix (ix_tupK (K := K) rfl) (pv 0) pe_int (fun _ _ => rfl)) (pe_ix (ix_tupK (K := K) rfl) (pv 1) pe_int (fun _ _ => rfl)) (nomark _))) pa_nil))), ?_⟩
    have hlen := Paired.length hP
    refine ⟨_, rfl, _, rfl, _, rfl, a, xs, rfl, SqL.of ha, fun pz hz => ?_⟩
    rw [cut_tail]
    have s1 := same_new (o := .lst xs.tail) hz
    refine ⟨a, pz, rfl, ⟨_, SqL.of (s1 _ _ ha)⟩, ⟨_, SqL.of upd_same⟩, fun p hp => ?_⟩
    have s2 := s1.trans (same_new (o := .lst []) hp)
    have hz2 : upd (upd H pz (.lst xs.tail)) p (.lst []) pz = some (.lst xs.tail) := by rw [upd_ne (fun z => by rw [← z, upd_same] at hp; cases hp), upd_same]
    have pp : H p = none := s1.free hp
    have npz : pz ≠ p := fun z => by rw [← z, upd_same] at hp; cases hp
    refine comp_zip (K := K) (a := a) (b := pz) (xs := xs) (zs := xs.tail) (fun i ys H2 => Same H H2 ∧ H2 pz = some (.lst xs.tail) ∧ H2 p = some (.lst ys) ∧ ys = ((((ps.zip ps.tail).take i).map fun q => decide (q.1.2 < q.2.1)).map V.bl)) (by simp) ⟨s2, hz2, upd_same, rfl⟩ (fun i ys H2 h => ⟨h.1.seq (SqL.of ha), SqL.of h.2.1, h.2.2.1⟩) ?_ ?_
    · rintro i x z ys H2 t hi hx hzz ⟨sm, hz3, hy, rfl⟩ ht
      obtain ⟨r, hr1, q, rfl, hq⟩ := paired_get hP hx
      have hzz' : xs[i + 1]? = some z := by rw [← hzz]; simp
      obtain ⟨r', hr1', q', rfl, hq'⟩ := paired_get hP hzz'
      have g1 := same_new (o := .tup [.ref q, .ref q']) ht
      have sg := sm.trans g1
      refine ⟨t, _, rfl, SqT.of upd_same, rfl, _, _, rfl, _, _, rfl, rfl, ((Wk.refl _).set rfl).set rfl, yes ?_⟩
      refine ⟨_, rfl, q, _, 1, _, rfl, rfl, SqT.of (sg _ _ hq), rfl, _, rfl, q', _, 0, _, rfl, rfl, SqT.of (sg _ _ hq'), rfl, _, _, rfl, rfl, ?_⟩
      refine ⟨g1 _ _ hy, ?_, nx hi ⟨sg.write pp, ?_, upd_same, ?_⟩⟩
      · refine Nat.lt_of_le_of_lt (m := 300) ?_ (by decide)
        simp only [List.length_map, List.length_take, List.length_zip, List.length_tail]; (first | lia | omega)
      · rw [upd_ne npz]; exact g1 _ _ hz3
      · have e : (ps.zip ps.tail)[i]? = some (r, r') := by
          rw [List.getElem?_zip_eq_some]
          exact ⟨hr1, by rw [List.getElem?_tail]; exact hr1'⟩
        rw [take_snoc e]; simp
    · rintro ys H2 ⟨sm, hz3, hy, rfl⟩
      refine ⟨p, _, rfl, SqL.of hy, ?_⟩
      have e : (ps.zip ps.tail).take xs.tail.length = ps.zip ps.tail := List.take_of_length_le (by simp [hlen])
      rw [e, apart_zip']
      exact k H2 sm
noncomputable def tr3 (t : Fr.Tr) : List Int := [t.1, t.2.1, t.2.2]
noncomputable def srt3 (l : List Fr.Tr) : List Fr.Tr := Srt.out (Srt.rank (l.map tr3)) (0, 0, 0) l
theorem srt3_perm (l : List Fr.Tr) : (srt3 l).Perm l := Srt.out_perm _ _ _
noncomputable def T3At (H : Hp) (v : V) (t : Fr.Tr) : Prop := TAt H v (tr3 t)
noncomputable abbrev T3sAt (H : Hp) : List V → List Fr.Tr → Prop := Paired (T3At H)
theorem T3At.mono {H H' : Hp} {v : V} {t : Fr.Tr} (h : T3At H v t) (s : Tps H H') : T3At H' v t := let ⟨p, e, q⟩ := h; ⟨p, e, s p _ q⟩
theorem T3sAt.mono {H H' : Hp} {vs : List V} {ts : List Fr.Tr} (h : T3sAt H vs ts) (s : Tps H H') : T3sAt H' vs ts := Paired.mapP h fun _ _ q => q.mono s
theorem t3_tups {H : Hp} : ∀ {vs : List V} {ts : List Fr.Tr}, T3sAt H vs ts → Paired (TAt H) vs (ts.map tr3)
  | _, _, .nil => .nil
  | _, _, .cons r t => .cons r (t3_tups t)
theorem t3_append {H : Hp} : ∀ {xs ys : List V} {rs ss : List Fr.Tr}, T3sAt H xs rs → T3sAt H ys ss → T3sAt H (xs ++ ys) (rs ++ ss)
  | [], _, [], _, .nil, s => s
  | _ :: _, _, _ :: _, _, .cons r t, s => .cons r (t3_append t s)
noncomputable def totP (S : List (List Pc)) : Nat := (S.map List.length).sum
theorem trips_length : ∀ (S : List (List Pc)) (h : Int), (Fr.trips h S).length = totP S
  | [], _ => rfl
  | s :: t, h => by simp [Fr.trips, Fr.tag, totP, trips_length t]
theorem trips_append : ∀ (A B : List (List Pc)) (h : Int), Fr.trips h (A ++ B) = Fr.trips h A ++ Fr.trips (h + A.length) B
  | [], B, h => by simp [Fr.trips]
  | s :: t, B, h => by
    simp only [List.cons_append, Fr.trips, trips_append t B, List.append_assoc, List.length_cons]
    rw [show h + 1 + (t.length : Int) = h + ((t.length + 1 : Nat) : Int) by (first | lia | omega)]
theorem totP_take {S : List (List Pc)} (i : Nat) : totP (S.take i) ≤ totP S := by
  have : totP S = totP (S.take i) + totP (S.drop i) := by
    unfold totP
    rw [← List.sum_append, ← List.map_append, List.take_append_drop]
  (first | lia | omega)
noncomputable def spAlong : Sp := fun vs H Q _ => ∃ a as S, vs = [.ref a] ∧ SsAt H a as S ∧ totP S < 64 ∧ S.length ≤ 300 ∧
  ∀ p ys H', Same H H' → H p = none → H' p = some (.lst ys) → T3sAt H' ys (srt3 (Fr.trips 0 S)) → Q (.ref p) H'
theorem scAlong : FnScope ["shares", "pieces", "heir", "share"] ["shares"] (defScope sAlong) := ⟨rfl, rfl, rfl, by decide +kernel, rfl, by decide +kernel, by decide +kernel⟩
theorem ok_along {f : Addr} {fd : FuncData} (F : FunG K "along_the_bank" "along_the_bank" sAlong f fd .none) (T : Py mg) : FnOk P w K mg base CX0 1 f fd ["shares"] spAlong := by
  refine F.ok scAlong (fun vs H Q E h => ?_) (fun cdv A outer s H vs Q E hr h => ?_)
  · obtain ⟨_, _, _, rfl, _⟩ := h; rfl
  · obtain ⟨a, as, S, rfl, ⟨ha, hSh⟩, h64, hn, k⟩ := h
    refine ⟨_, pss_cons (ps_set (i := 1) scAlong.nd rfl (Or.inl rfl) (pe_lst pa_nil))
      (pss_cons (ps_for PassesOwn.never rfl (pi_enum rfl T.enum (pa_cons (pv 0) pa_nil)) (pg_tup rfl (pgs_cons (pg_name (i := 2) scAlong.nd rfl (Or.inr rfl)) (pgs_cons (pg_name (i := 3) scAlong.nd rfl (Or.inl rfl)) pgs_nil)))
        (pss_one (ps_expr (pe_bm PySem.F.plainAttrs_list PySem.F.slot_list_extend PySem.F.type_list_extend mt_extend (pv 1) (pa_cons
          (pe_comp (Nc := ["start", "end", "heir"]) (fv := [none, none, some 2]) ⟨rfl, by decide +kernel, rfl, by decide +kernel, ⟨rfl, trivial⟩, rfl, rfl, ⟨⟨rfl, rfl, rfl, rfl⟩, trivial⟩⟩ rfl (pi_list (pv 3))
            (fun _ _ _ _ _ => pg_tupK (K := K) (n := 2) rfl rfl (pgs_cons (pg_name (i := 0) (show (["start", "end", "heir"] : List Str).Nodup by decide +kernel) rfl (Or.inl rfl)) (pgs_cons (pg_name (i := 1) (show (["start", "end", "heir"] : List Str).Nodup by decide +kernel) rfl (Or.inl rfl)) pgs_nil)))
            (fun _ _ _ _ _ => pif_nil) (fun _ _ _ _ _ => pe_tup (pa_cons (pv 0) (pa_cons (pv 1) (pa_cons (pv 2) pa_nil))))) pa_nil)))))
      (pss_one (ps_ret (pe_callB call_sortedT rfl T.sorted PyProof.Rows.boot_sorted (pa_cons (pv 1) pa_nil))))), ?_⟩
    have hlS := Paired.length hSh
    refine ⟨Nat.zero_le _, fun pp hpp => ?_⟩
    have s0 := same_new (o := .lst []) hpp
    refine ⟨_, rfl, a, rfl, ⟨_, SqL.of (s0 _ _ ha)⟩, ?_⟩
    refine for_enum (K := K) (a := a) (xs := as.map V.ref) (fun i σ H2 => ∃ z2 z3 ys, σ = [some (.ref a), some (.ref pp), z2, z3] ∧ Same H H2 ∧ H2 pp = some (.lst ys) ∧ T3sAt H2 ys (Fr.trips 0 (S.take i))) ⟨none, none, [], rfl, s0, upd_same, .nil⟩ ?_ ?_ ?_
    · rintro i σ H2 hi ⟨z2, z3, ys, rfl, sm, _⟩
      exact sm.seq (SqL.of ha)
    · rintro i x σ H2 t hx ⟨z2, z3, ys, rfl, sm, hy, hT⟩ ht
      rw [List.getElem?_map, Option.map_eq_some_iff] at hx
      obtain ⟨b, hb, rfl⟩ := hx
      obtain ⟨ps, hps, xs, hxs, hP⟩ := paired_get hSh hb
      have hil : i < S.length := (List.getElem?_eq_some_iff.mp hps).1
      have eS : S.take (i + 1) = S.take i ++ [ps] := take_snoc hps
      have hle := totP_take (S := S) (i + 1)
      have hpl : totP (S.take (i + 1)) = totP (S.take i) + ps.length := by rw [eS]; simp [totP]
      have g1 := same_new (o := .tup [.int i, .ref b]) ht
      have sg := sm.trans g1
      have hlen := Paired.length hP
      have ly := Paired.length hT
      rw [trips_length] at ly
      refine ⟨t, _, rfl, SqT.of upd_same, rfl, _, _, rfl, _, _, rfl, rfl, ?_⟩
      refine ⟨_, rfl, .inl ⟨rfl, _, SqL.of (g1 _ _ hy)⟩, _, rfl, b, rfl, ⟨_, SqL.of (sg _ _ hxs)⟩, fun p hp => ?_⟩
      have g2 := same_new (o := .lst []) hp
      have np : pp ≠ p := fun z => by rw [← z, upd_ne (ne_of_none hy ht), hy] at hp; cases hp
      have hpH : H p = none := sg.free hp
      refine comp_list (K := K) (a := b) (xs := xs) (fun j zs H3 => Same (upd H2 t (.tup [.int i, .ref b])) H3 ∧ H3 p = some (.lst zs) ∧ T3sAt H3 zs (Fr.tag i (ps.take j))) ⟨g2, upd_same, .nil⟩ (fun j zs H3 h => ⟨(sg.trans h.1).seq (SqL.of hxs), h.2.1⟩) ?_ ?_
      · rintro j x zs H3 hj hx' ⟨sm3, hz3, hT3⟩
        obtain ⟨r, hr1, hr2⟩ := paired_get hP hx'
        obtain ⟨q, rfl, hq⟩ := hr2.mono (sg.trans sm3).tps
        have lz := Paired.length hT3
        refine ⟨q, _, rfl, SqT.of hq, rfl, _, _, rfl, _, _, rfl, rfl, ((Wk.refl _).set rfl).set rfl, yes ?_⟩
        refine ⟨_, rfl, _, rfl, _, rfl, by show 3 ≤ sizeLine; decide, fun Z hZ => ?_⟩
        have g3 := same_new (o := .tup [.int r.1, .int r.2, .int i]) hZ
        have hz4 := g3 _ _ hz3
        refine ⟨hz4, ?_, nx hj ⟨(sm3.trans g3).write hp, upd_same, ?_⟩⟩
        · refine Nat.lt_of_le_of_lt (m := 1000) ?_ (by decide)
          simp [Fr.tag] at lz; (first | lia | omega)
        · have e : Fr.tag i (ps.take (j + 1)) = Fr.tag i (ps.take j) ++ [(r.1, r.2, (i : Int))] := by rw [take_snoc hr1]; simp [Fr.tag]
          rw [e]
          have tps : ∀ o, Tps (upd H3 Z (.tup [.int r.1, .int r.2, .int i])) (upd (upd H3 Z (.tup [.int r.1, .int r.2, .int i])) p o) := fun o b zs z => by rw [upd_ne (fun y => by rw [y, hz4] at z; cases z)]; exact z
          exact Paired.snoc ((hT3.mono g3.tps).mono (tps _)) ⟨Z, rfl, tps _ _ _ upd_same⟩
      · rintro zs H3 ⟨sm3, hz3, hT3⟩
        rw [hlen, List.take_length] at hT3
        have lz := Paired.length hT3
        have hy3 : H3 pp = some (.lst ys) := sm3 _ _ (g1 _ _ hy)
        refine ⟨pp, p, ys, zs, rfl, rfl, hy3, hz3, ?_, ?_⟩
        · refine Nat.le_trans (m := 1000) ?_ (by decide)
          simp [Fr.tag] at lz; (first | lia | omega)
        · refine ⟨_, _, _, rfl, (sg.trans sm3).write hpp, upd_same, ?_⟩
          rw [eS, trips_append]
          have hi0 : ((S.take i).length : Int) = i := by rw [List.length_take]; (first | lia | omega)
          have e2 : Fr.trips (0 + ((S.take i).length : Int)) [ps] = Fr.tag i ps := by simp only [Fr.trips, List.append_nil, hi0, Int.zero_add]
          rw [e2]
          have tps : Tps H3 (upd H3 pp (.lst (ys ++ zs))) := tps_lst hy3
          exact t3_append ((hT.mono (g1.trans sm3).tps).mono tps) (hT3.mono tps)
    · rintro σ H2 ⟨z2, z3, ys, rfl, sm, hy, hT⟩
      rw [List.length_map, show as.length = S.length from hlS, List.take_length] at hT
      have ly := Paired.length hT
      rw [trips_length] at ly
      refine ⟨_, rfl, pp, ys, (Fr.trips 0 S).map tr3, 3, rfl, SqL.of hy, t3_tups hT, fun t ht => ?_, by decide, by rw [List.length_map, trips_length]; exact h64, fun p hp => ?_⟩
      · obtain ⟨q, _, rfl⟩ := List.mem_map.mp ht; rfl
      · have g := same_new (o := .lst (Srt.out (Srt.rank ((Fr.trips 0 S).map tr3)) .non ys)) hp
        exact k p _ _ (sm.trans g) (sm.free hp) upd_same (T3sAt.mono (Srt.out_paired _ hT) g.tps)
end
end Q7

set_option Elab.async false
set_option linter.all false
set_option maxRecDepth 100000
set_option maxHeartbeats 4000000
namespace Q7
open PySem L2
section
variable {P : Program} {w : World} {K : PySem.W.Frag} {mg : Str → Option Value} {base : Heap}
seal L2.PSs L2.PS L2.PE L2.PA L2.PT L2.PW
noncomputable def spCov (K : PySem.W.Frag) : Sp := fun vs H Q _ => ∃ a xs ts w, vs = [.ref a, .int w] ∧ SqL K H a xs ∧ T3sAt H xs ts ∧ ∀ H', Same H H' → Q (.bl (Fr.cover w 0 ts)) H'
theorem scCov : FnScope ["pieces", "whole", "reached", "start", "end", "heir"] ["pieces", "whole"] (defScope sCov) := ⟨rfl, rfl, rfl, by decide +kernel, rfl, by decide +kernel, by decide +kernel⟩
theorem ok_cov {f : Addr} {fd : FuncData} (F : FunG K "cover_once" "cover_once" sCov f fd .none) (T : Py mg) : FnOk P w K mg base CX0 1 f fd ["pieces", "whole"] (spCov K) := by
  refine F.ok scCov (fun vs H Q E h => ?_) (fun cdv A outer s H vs Q E hr h => ?_)
  · obtain ⟨_, _, _, _, rfl, _⟩ := h; rfl
  · obtain ⟨a, xs, ts, w, rfl, hS, hT, k⟩ := h
    refine ⟨_, pss_cons (ps_set (i := 2) scCov.nd rfl (Or.inl rfl) pe_int)
      (pss_cons (ps_for PassesOwn.never rfl (pi_list (pv 0)) (pg_tup rfl (pgs_cons (pg_name (i := 3) scCov.nd rfl (Or.inl rfl)) (pgs_cons (pg_name (i := 4) scCov.nd rfl (Or.inl rfl)) (pgs_cons (pg_name (i := 5) scCov.nd rfl (Or.inl rfl)) pgs_nil))))
        (pss_cons (ps_if (PW.pt (pw_or (pt_cmpR op_ne (pv 3) (pv 2) (nomark _)) (pw_or1 (pt_cmpR op_le (pv 4) (pv 3) (nomark _))))) (pss_one (ps_ret pe_bl)) pss_nil)
        (pss_one (ps_set (i := 2) scCov.nd rfl (Or.inl rfl) (pv 4)))))
      (pss_one (ps_ret (pe_cmpR op_eq (pv 2) (pv 1) (nomark _))))), ?_⟩
    have hlen := Paired.length hT
    refine ⟨_, rfl, a, rfl, ⟨_, hS⟩, ?_⟩
    refine for_list (K := K) (a := a) (xs := xs) (fun i σ H2 => ∃ r z3 z4 z5, σ = [some (.ref a), some (.int w), some (.int r), z3, z4, z5] ∧ Same H H2 ∧ Fr.cover w 0 ts = Fr.cover w r (ts.drop i)) ⟨0, none, none, none, rfl, Same.refl _, rfl⟩ ?_ ?_ ?_
    · rintro i σ H2 hi ⟨r, z3, z4, z5, rfl, sm, _⟩
      exact sm.seq hS
    · rintro i x σ H2 hx ⟨r, z3, z4, z5, rfl, sm, hc⟩
      obtain ⟨t, ht, hq0⟩ := paired_get hT hx
      obtain ⟨q, rfl, hq⟩ := T3At.mono hq0 sm.tps
      have ed : ts.drop i = t :: ts.drop (i + 1) := by
        obtain ⟨h1, h2⟩ := List.getElem?_eq_some_iff.mp ht
        rw [List.drop_eq_getElem_cons h1, h2]
      rw [ed] at hc
      refine ⟨q, _, rfl, SqT.of hq, rfl, _, _, rfl, _, _, rfl, _, _, rfl, rfl, ?_⟩
      refine ⟨_, rfl, _, rfl, rfl, _, rfl, ite2 (fun z => ?_) (fun z => ?_)⟩
      · refine iteT ?_
        have z' : t.1 ≠ r := by simpa using z
        have e : Fr.cover w 0 ts = false := by rw [hc]; simp only [Fr.cover]; rw [if_pos (.inl z')]
        have := k H2 sm
        rw [e] at this
        exact this
      · have z' : t.1 = r := by simpa using z
        refine ⟨_, rfl, _, rfl, _, _, rfl, rfl, _, rfl, ite2 (fun y => ?_) (fun y => ?_)⟩
        · have y' : t.2.1 ≤ t.1 := by simpa using y
          have e : Fr.cover w 0 ts = false := by rw [hc]; simp only [Fr.cover]; rw [if_pos (.inr y')]
          have := k H2 sm
          rw [e] at this
          exact this
        · have y' : ¬ t.2.1 ≤ t.1 := by simpa using y
          refine ⟨_, rfl, _, _, _, _, rfl, sm, ?_⟩
          rw [hc]
          simp only [Fr.cover]
          rw [if_neg (fun z => z.elim (fun q => q z') y')]
    · rintro σ H2 ⟨r, z3, z4, z5, rfl, sm, hc⟩
      rw [hlen, List.drop_length] at hc
      have e : Fr.cover w 0 ts = decide (r = w) := hc
      refine ⟨_, rfl, _, rfl, rfl, ?_⟩
      have e2 : decide (V.int r = V.int w) = decide (r = w) := by simp
      have := k H2 sm
      rw [e, ← e2] at this
      exact this
noncomputable def spAlike (K : PySem.W.Frag) : Sp := fun vs H Q _ => ∃ a ns, vs = [.ref a] ∧ SqL K H a (ns.map V.int) ∧ ns.length < 4000 ∧ ∀ H', Same H H' → Q (.bl (Fr.alike ns)) H'
theorem scAlike : FnScope ["numbers"] ["numbers"] (defScope sAlike) := ⟨rfl, rfl, rfl, by decide +kernel, rfl, by decide +kernel, by decide +kernel⟩
theorem ok_alike {f : Addr} {fd : FuncData} (F : FunG K "all_alike" "all_alike" sAlike f fd .none) (T : Py mg) : FnOk P w K mg base CX0 1 f fd ["numbers"] (spAlike K) := by
  refine F.ok scAlike (fun vs H Q E h => ?_) (fun cdv A outer s H vs Q E hr h => ?_)
  · obtain ⟨_, _, rfl, _⟩ := h; rfl
  · obtain ⟨a, ns, rfl, hS, hl, k⟩ := h
    refine ⟨_, pss_one (ps_ret (pe_cmpR op_le (pe_lenset rfl rfl T.len rfl T.set (pa_cons (pv 0) pa_nil)) pe_int (nomark _))), ?_⟩
    refine ⟨_, rfl, a, ns, rfl, hS, hl, _, _, rfl, rfl, ?_⟩
    have e : decide ((((ns.foldl St.dd []).length : Nat) : Int) ≤ 1) = Fr.alike ns := by
      rw [← Fr.alike_dd]
      show decide ((((ns.foldl Fr.dd []).length : Nat) : Int) ≤ 1) = _
      rw [Bool.eq_iff_iff, decide_eq_true_eq, decide_eq_true_eq]; (first | lia | omega)
    have := k H (Same.refl _)
    rw [← e] at this
    exact this
end
end Q7

set_option Elab.async false
set_option linter.all false
set_option maxRecDepth 100000
set_option maxHeartbeats 4000000
namespace Q7
open PySem L2
noncomputable abbrev sCuts : Stmt := top 6
noncomputable abbrev sFair : Stmt := top 11
theorem op_notInK {X : Cx} {K : PySem.W.Frag} (h : X.K = K) : OpR X (compareOp .NotIn) (rIn K true) := h ▸ op_notIn_seq
noncomputable def plc (S : List (List Pc)) : List Int := S.flatMap fun s => s.map (·.1) ++ s.map (·.2)
theorem plc_snoc (S : List (List Pc)) (s : List Pc) : plc (S ++ [s]) = plc S ++ s.map (·.1) ++ s.map (·.2) := by simp [plc]
theorem plc_length : ∀ S : List (List Pc), (plc S).length = 2 * totP S
  | [] => rfl
  | s :: t => by
    have := plc_length t
    simp [plc, totP] at this ⊢; (first | lia | omega)
section
variable {P : Program} {w : World} {K : PySem.W.Frag} {mg : Str → Option Value} {base : Heap}
seal L2.PSs L2.PS L2.PE L2.PA L2.PT L2.PW
noncomputable def cutF (L : Int) (ms : List Int) : List Int := ms.filter fun m => !inV (.int m) [.int 0, .int L]
noncomputable def spCuts (K : PySem.W.Frag) : Sp := fun vs H Q _ => ∃ b a xs rs as S, vs = [.ref b, .ref a] ∧ SqL K H b xs ∧ RowsAt H xs rs ∧ rs.length ≤ 1000 ∧ SsAt H a as S ∧ S.length ≤ 300 ∧ totP S ≤ 300 ∧ ((plc S).foldl St.dd []).length < 64 ∧
  ∀ p ms H', Same H H' → H p = none → ms.Perm ((plc S).foldl St.dd []) → ms.Pairwise (· ≤ ·) → H' p = some (.lst ((cutF (Bk.tot rs) ms).map V.int)) → Q (.ref p) H'
theorem scCuts : FnScope ["bank", "shares", "places", "share", "edges"] ["bank", "shares"] (defScope sCuts) := ⟨rfl, rfl, rfl, by decide +kernel, rfl, by decide +kernel, by decide +kernel⟩
theorem ok_cuts {f f1 : Addr} {fd fd1 : FuncData} (F : FunG K "cuts" "cuts" sCuts f fd .none) (T : Py mg) (D1 : Df K mg "length" sLen ["bank"] f1 fd1) : FnOk P w K mg base CX0 2 f fd ["bank", "shares"] (spCuts K) := by
  have G1 : FnOk P w K mg base CX0 1 f1 fd1 ["bank"] (spLen K) := ok_len D1.fn T
  refine F.ok scCuts (fun vs H Q E h => ?_) (fun cdv A outer s H vs Q E hr h => ?_)
  · obtain ⟨_, _, _, _, _, _, rfl, _⟩ := h; rfl
  · obtain ⟨b, a, xs, rs, as, S, rfl, hB, hR, hrl, ⟨ha, hSh⟩, hn, ht, h64, k⟩ := h
    refine ⟨_, pss_cons (ps_set (i := 2) scCuts.nd rfl (Or.inl rfl) (pe_lst pa_nil))
      (pss_cons (ps_for PassesOwn.never rfl (pi_list (pv 1)) (pg_name (i := 3) scCuts.nd rfl (Or.inl rfl))
        (pss_cons (ps_expr (pe_bm PySem.F.plainAttrs_list PySem.F.slot_list_extend PySem.F.type_list_extend mt_extend (pv 2) (pa_cons
          (pe_comp (Nc := ["start", "end"]) (fv := [none, none]) ⟨rfl, by decide +kernel, rfl, by decide +kernel, trivial, by decide +kernel, rfl, trivial⟩ rfl (pi_list (pv 3))
            (fun _ _ _ _ _ => pg_tupK (K := K) (n := 2) rfl rfl (pgs_cons (pg_name (i := 0) (show (["start", "end"] : List Str).Nodup by decide +kernel) rfl (Or.inl rfl)) (pgs_cons (pg_name (i := 1) (show (["start", "end"] : List Str).Nodup by decide +kernel) rfl (Or.inl rfl)) pgs_nil)))
            (fun _ _ _ _ _ => pif_nil) (fun _ _ _ _ _ => pv 0)) pa_nil)))
        (pss_one (ps_expr (pe_bm PySem.F.plainAttrs_list PySem.F.slot_list_extend PySem.F.type_list_extend mt_extend (pv 2) (pa_cons
          (pe_comp (Nc := ["start", "end"]) (fv := [none, none]) ⟨rfl, by decide +kernel, rfl, by decide +kernel, trivial, by decide +kernel, rfl, trivial⟩ rfl (pi_list (pv 3))
            (fun _ _ _ _ _ => pg_tupK (K := K) (n := 2) rfl rfl (pgs_cons (pg_name (i := 0) (show (["start", "end"] : List Str).Nodup by decide +kernel) rfl (Or.inl rfl)) (pgs_cons (pg_name (i := 1) (show (["start", "end"] : List Str).Nodup by decide +kernel) rfl (Or.inl rfl)) pgs_nil)))
            (fun _ _ _ _ _ => pif_nil) (fun _ _ _ _ _ => pv 1)) pa_nil))))))
      (pss_cons (ps_set (i := 4) scCuts.nd rfl (Or.inr rfl) (pe_tup (pa_cons pe_int (pa_cons (pe_call G1 hr rfl D1.gl D1.fn.kp D1.bd .nil pass0 (pa_cons (pv 0) pa_nil)) pa_nil))))
      (pss_one (ps_ret (pe_comp (Nc := ["place", "edges"]) (fv := [none, some 4]) ⟨rfl, by decide +kernel, rfl, by decide +kernel, ⟨rfl, trivial⟩, rfl, rfl, ⟨⟨rfl, rfl, rfl, rfl⟩, trivial⟩⟩ rfl (pi_list (pe_srtset rfl rfl T.sorted rfl T.set (pa_cons (pv 2) pa_nil)))
            (fun _ _ _ _ _ => pg_name (i := 0) (show (["place", "edges"] : List Str).Nodup by decide +kernel) rfl (Or.inl rfl))
            (fun _ _ _ _ _ => pif_one (pt_cmpR (op_notInK (K := K) rfl) (pv 0) (pv 1) (by with_unfolding_all rfl))) (fun _ _ _ _ _ => pv 0)))))), ?_⟩
    have hlS := Paired.length hSh
    refine ⟨Nat.zero_le _, fun pp hpp => ?_⟩
    have s0 := same_new (o := .lst []) hpp
    refine ⟨_, rfl, a, rfl, ⟨_, SqL.of (s0 _ _ ha)⟩, ?_⟩
    refine for_list (K := K) (a := a) (xs := as.map V.ref) (fun i σ H2 => ∃ z3, σ = [some (.ref b), some (.ref a), some (.ref pp), z3, none] ∧ Same H H2 ∧ H2 pp = some (.lst ((plc (S.take i)).map V.int))) ⟨none, rfl, s0, upd_same⟩ ?_ ?_ ?_
    · rintro i σ H2 hi ⟨z3, rfl, sm, _⟩
      exact sm.seq (SqL.of ha)
    · rintro i x σ H2 hx ⟨z3, rfl, sm, hy⟩
      rw [List.getElem?_map, Option.map_eq_some_iff] at hx
      obtain ⟨c, hc, rfl⟩ := hx
      obtain ⟨ps, hps, ys, hys, hP⟩ := paired_get hSh hc
      have eS : S.take (i + 1) = S.take i ++ [ps] := take_snoc hps
      have hle := totP_take (S := S) (i + 1)
      have hpl : totP (S.take (i + 1)) = totP (S.take i) + ps.length := by rw [eS]; simp [totP]
      have hlen := Paired.length hP
      have l1 := plc_length (S.take i)
      refine ⟨_, rfl, .inl ⟨rfl, _, SqL.of hy⟩, _, rfl, c, rfl, ⟨_, SqL.of (sm _ _ hys)⟩, fun p hp => ?_⟩
      have np : pp ≠ p := ne_of_none hy hp
      have hpH : H p = none := sm.free hp
      refine comp_list (K := K) (a := c) (xs := ys) (fun j zs H3 => Same H2 H3 ∧ H3 p = some (.lst zs) ∧ zs = ((ps.take j).map (·.1)).map V.int) ⟨same_new hp, upd_same, rfl⟩ (fun j zs H3 h => ⟨(sm.trans h.1).seq (SqL.of hys), h.2.1⟩) ?_ ?_
      · rintro j x zs H3 hj hx' ⟨sm3, hz3, rfl⟩
        obtain ⟨r, hr1, hr2⟩ := paired_get hP hx'
        obtain ⟨q, rfl, hq⟩ := hr2.mono (sm.trans sm3).tps
        refine ⟨q, _, rfl, SqT.of hq, rfl, _, _, rfl, _, _, rfl, rfl, ((Wk.refl _).set rfl).set rfl, yes ?_⟩
        refine ⟨_, rfl, hz3, ?_, nx hj ⟨sm3.write hp, upd_same, ?_⟩⟩
        · refine Nat.lt_of_le_of_lt (m := 1000) ?_ (by decide)
          simp only [List.length_map, List.length_take]; (first | lia | omega)
        · rw [take_snoc hr1]; simp
      rintro zs H3 ⟨sm3, hz3, rfl⟩
      rw [hlen, List.take_length] at hz3
      refine ⟨pp, p, _, _, rfl, rfl, sm3 _ _ hy, hz3, ?_, ?_⟩
      · refine Nat.le_trans (m := 2000) ?_ (by decide)
        simp only [List.length_map]; (first | lia | omega)
      have sm4 : Same H (upd H3 pp (.lst ((plc (S.take i)).map V.int ++ (ps.map (·.1)).map V.int))) := (sm.trans sm3).write hpp
      have hy4 : upd H3 pp (.lst ((plc (S.take i)).map V.int ++ (ps.map (·.1)).map V.int)) pp = some (.lst ((plc (S.take i)).map V.int ++ (ps.map (·.1)).map V.int)) := upd_same
      generalize upd H3 pp (.lst ((plc (S.take i)).map V.int ++ (ps.map (·.1)).map V.int)) = H4 at sm4 hy4 ⊢
      refine ⟨_, rfl, .inl ⟨rfl, _, SqL.of hy4⟩, _, rfl, c, rfl, ⟨_, SqL.of (sm4 _ _ hys)⟩, fun p' hp' => ?_⟩
      refine comp_list (K := K) (a := c) (xs := ys) (fun j zs H5 => Same H4 H5 ∧ H5 p' = some (.lst zs) ∧ zs = ((ps.take j).map (·.2)).map V.int) ⟨same_new hp', upd_same, rfl⟩ (fun j zs H5 h => ⟨(sm4.trans h.1).seq (SqL.of hys), h.2.1⟩) ?_ ?_
      · rintro j x zs H5 hj hx' ⟨sm5, hz5, rfl⟩
        obtain ⟨r, hr1, hr2⟩ := paired_get hP hx'
        obtain ⟨q, rfl, hq⟩ := hr2.mono (sm4.trans sm5).tps
        refine ⟨q, _, rfl, SqT.of hq, rfl, _, _, rfl, _, _, rfl, rfl, ((Wk.refl _).set rfl).set rfl, yes ?_⟩
        refine ⟨_, rfl, hz5, ?_, nx hj ⟨sm5.write hp', upd_same, ?_⟩⟩
        · refine Nat.lt_of_le_of_lt (m := 1000) ?_ (by decide)
          simp only [List.length_map, List.length_take]; (first | lia | omega)
        · rw [take_snoc hr1]; simp
      rintro zs H5 ⟨sm5, hz5, rfl⟩
      rw [hlen, List.take_length] at hz5
      refine ⟨pp, p', _, _, rfl, rfl, sm5 _ _ hy4, hz5, ?_, ?_⟩
      · refine Nat.le_trans (m := 2000) ?_ (by decide)
        simp only [List.length_map, List.length_append]; (first | lia | omega)
      · refine ⟨_, rfl, (sm4.trans sm5).write hpp, ?_⟩
        rw [upd_same, eS, plc_snoc]; simp
    · rintro σ H2 ⟨z3, rfl, sm, hy⟩
      rw [List.length_map, show as.length = S.length from hlS, List.take_length] at hy
      refine ⟨_, rfl, b, xs, rs, rfl, sm.seq hB, hR.mono sm.tps, hrl, fun H3 s3 => ?_⟩
      refine ⟨by show 2 ≤ sizeLine; decide, fun te hte => ?_⟩
      have sm3 := sm.trans s3
      have g := same_new (o := .tup [.int 0, .int (Bk.tot rs)]) hte
      have sg := sm3.trans g
      have l1 := plc_length S
      have hte4 : upd H3 te (.tup [.int 0, .int (Bk.tot rs)]) te = some (.tup [.int 0, .int (Bk.tot rs)]) := upd_same
      have hy4 : upd H3 te (.tup [.int 0, .int (Bk.tot rs)]) pp = some (.lst ((plc S).map V.int)) := g _ _ (s3 _ _ hy)
      generalize upd H3 te (.tup [.int 0, .int (Bk.tot rs)]) = H4 at sg hte4 hy4 ⊢
      refine ⟨_, rfl, pp, plc S, rfl, SqL.of hy4, by (first | lia | omega), h64, fun q ms hq pm pw => ?_⟩
      have g5 := same_new (o := .lst (ms.map V.int)) hq
      refine ⟨q, rfl, ⟨_, SqL.of upd_same⟩, fun p hp => ?_⟩
      have s5 := sg.trans g5
      have hm : ms.length < 64 := by rw [pm.length_eq]; exact h64
      have hte5 := g5 _ _ hte4
      have hq5 : upd H4 q (.lst (ms.map V.int)) q = some (.lst (ms.map V.int)) := upd_same
      generalize upd H4 q (.lst (ms.map V.int)) = H5 at s5 hte5 hq5 hp ⊢
      refine comp_list (K := K) (a := q) (xs := ms.map V.int) (fun j zs H6 => Same H5 H6 ∧ H6 p = some (.lst zs) ∧ zs = (cutF (Bk.tot rs) (ms.take j)).map V.int) ⟨same_new hp, upd_same, rfl⟩ (fun j zs H6 h => ⟨h.1.seq (SqL.of hq5), h.2.1⟩) ?_ ?_
      · rintro j x zs H6 hj hx' ⟨sm6, hz6, rfl⟩
        rw [List.getElem?_map, Option.map_eq_some_iff] at hx'
        obtain ⟨m, hm1, rfl⟩ := hx'
        refine ⟨(Wk.refl _).set rfl, ?_⟩
        refine ⟨_, rfl, _, rfl, te, _, rfl, .inr (SqT.of (sm6 _ _ hte5)), rfl, rfl, _, rfl, ?_⟩
        have tk : ms.take (j + 1) = ms.take j ++ [m] := take_snoc hm1
        have lf : (cutF (Bk.tot rs) (ms.take j)).length ≤ 64 := by
          have h1 := List.length_filter_le (fun m => !inV (.int m) [.int 0, .int (Bk.tot rs)]) (ms.take j)
          rw [List.length_take] at h1
          unfold cutF; (first | lia | omega)
        refine ite2 (fun z => ?_) (fun z => ?_)
        · refine ⟨_, rfl, hz6, ?_, nx hj ⟨sm6.write hp, upd_same, ?_⟩⟩
          · refine Nat.lt_of_le_of_lt (m := 64) ?_ (by decide)
            simp only [List.length_map]; (first | lia | omega)
          · have z' : (!inV (.int m) [.int 0, .int (Bk.tot rs)]) = true := z
            rw [tk]; unfold cutF
            rw [List.filter_append, List.filter_cons, if_pos z']; simp
        · refine nx hj ⟨sm6, hz6, ?_⟩
          have z' : ¬ (!inV (.int m) [.int 0, .int (Bk.tot rs)]) = true := z
          rw [tk]; unfold cutF
          rw [List.filter_append, List.filter_cons, if_neg z']; simp
      · rintro zs H6 ⟨sm6, hz6, rfl⟩
        rw [List.length_map, List.take_length] at hz6
        exact k p ms H6 (s5.trans sm6) (s5.free hp) pm pw hz6
end
end Q7

set_option linter.all false
namespace Fr
open Bk
theorem sbs_mem {α β : Type} : ∀ (n : Nat) (x : List (α × Int)) (y : List (β × Int)), x.length + y.length ≤ n → ∀ p ∈ sbs x y, ∃ q ∈ y, q.1 = p.2.1
  | _, [], y, _, p, h => by rw [sbs_nil] at h; simp at h
  | _, a :: x, [], _, p, h => by simp [sbs] at h
  | 0, a :: x, b :: y, hl, _, _ => by simp at hl
  | n + 1, (a, l) :: x, (b, m) :: y, hl, p, h => by
    simp only [List.length_cons] at hl
    rw [sbs_cons] at h
    rcases List.mem_cons.mp h with e | h
    · exact ⟨(b, m), by simp, by rw [e]⟩
    · split at h
      · obtain ⟨q, hq, e⟩ := sbs_mem n _ y (by simp only [List.length_cons]; (first | lia | omega)) p h
        exact ⟨q, by simp [hq], e⟩
      · split at h
        · obtain ⟨q, hq, e⟩ := sbs_mem n x ((b, m - l) :: y) (by simp only [List.length_cons]; (first | lia | omega)) p h
          rcases List.mem_cons.mp hq with z | z
          · exact ⟨(b, m), by simp, by rw [← e, z]⟩
          · exact ⟨q, by simp [z], e⟩
        · obtain ⟨q, hq, e⟩ := sbs_mem n x y (by (first | lia | omega)) p h
          exact ⟨q, by simp [hq], e⟩
end Fr

set_option Elab.async false
set_option linter.all false
set_option maxRecDepth 100000
set_option maxHeartbeats 4000000
namespace Q7
open PySem L2
noncomputable def ownersOf (S : List (List Pc)) : List (Int × Int) := (srt3 (Fr.trips 0 S)).map Fr.ow
noncomputable def runsF (rs : List Bk.Rw) (S : List (List Pc)) : List (Bool × Int × Int) := Bk.sbs rs (ownersOf S)
noncomputable def fairB (rs : List Bk.Rw) (S : List (List Pc)) : Bool :=
  (S.all Fr.apart && Fr.cover (Bk.tot rs) 0 (srt3 (Fr.trips 0 S))) && (Fr.alike (Fr.sumL true S.length (runsF rs S)) && Fr.alike (Fr.sumL false S.length (runsF rs S)))
theorem ixN_nat {n j : Nat} (h : j < n) : ixN n (j : Int) = some j := by
  unfold ixN
  rw [if_pos (by (first | lia | omega))]
  simp; (first | lia | omega)
theorem ntot_map {α β : Type} (f : α → β) : ∀ l : List (α × Int), Bk.ntot (l.map fun p => (f p.1, p.2)) = Bk.ntot l
  | [] => rfl
  | p :: t => by simp only [List.map_cons, Bk.ntot, ntot_map f t]
noncomputable def dkv (x y : V) : List (Key × V) := [(Sum.inr ("dry" : Str), x), (Sum.inr ("wet" : Str), y)]
theorem dk_ne : ¬ (Str.ofString "dry" = Str.ofString "wet") := by decide +kernel
theorem merge_two (x y : V) : mergeK [] (dkv x y) = dkv x y := by
  unfold mergeK dkv
  simp [putK, dk_ne]
theorem val_two (x y : V) (g : Bool) : valV (dkv x y) (Sum.inr (gs g)) = some (if g = true then x else y) := by
  unfold valV dkv
  cases g
  · have e : (Sum.inr (gs false) : Key) = Sum.inr ("wet" : Str) := rfl
    rw [e]
    simp [dk_ne]
  · have e : (Sum.inr (gs true) : Key) = Sum.inr ("dry" : Str) := rfl
    rw [e]
    simp
section
variable {P : Program} {w : World} {K : PySem.W.Frag} {mg : Str → Option Value} {base : Heap}
seal L2.PSs L2.PS L2.PE L2.PA L2.PT L2.PW
noncomputable def spFair (K : PySem.W.Frag) : Sp := fun vs H Q _ => ∃ b a xs rs as S, vs = [.ref b, .ref a] ∧ SqL K H b xs ∧ RowsAt H xs rs ∧ rs.length ≤ 500 ∧ (∀ r ∈ rs, 0 < r.2) ∧ SsAt H a as S ∧ S.length ≤ 300 ∧ totP S < 64 ∧
  ∀ H', Same H H' → Q (.bl (fairB rs S)) H'
theorem scFair : FnScope ["bank", "shares", "pieces", "owners", "sums", "ground", "owner", "long"] ["bank", "shares"] (defScope sFair) := ⟨rfl, rfl, rfl, by decide +kernel, rfl, by decide +kernel, by decide +kernel⟩
theorem ok_fair {f f1 f2 f3 f4 f5 f6 : Addr} {fd fd1 fd2 fd3 fd4 fd5 fd6 : FuncData} (F : FunG K "fair" "fair" sFair f fd .none) (T : Py mg) (D1 : Df K mg "length" sLen ["bank"] f1 fd1) (D2 : Df K mg "side_by_side" sSbs ["rows", "others"] f2 fd2)
    (D3 : Df K mg "apart_in_order" sApt ["share"] f3 fd3) (D4 : Df K mg "along_the_bank" sAlong ["shares"] f4 fd4) (D5 : Df K mg "cover_once" sCov ["pieces", "whole"] f5 fd5) (D6 : Df K mg "all_alike" sAlike ["numbers"] f6 fd6) :
    FnOk P w K mg base CX0 2 f fd ["bank", "shares"] (spFair K) := by
  have G1 : FnOk P w K mg base CX0 1 f1 fd1 ["bank"] (spLen K) := ok_len D1.fn T
  have G2 : FnOk P w K mg base CX0 1 f2 fd2 ["rows", "others"] (spSbs K) := ok_sbs D2.fn T
  have G3 : FnOk P w K mg base CX0 1 f3 fd3 ["share"] spApt := ok_apt D3.fn T
  have G4 : FnOk P w K mg base CX0 1 f4 fd4 ["shares"] spAlong := ok_along D4.fn T
  have G5 : FnOk P w K mg base CX0 1 f5 fd5 ["pieces", "whole"] (spCov K) := ok_cov D5.fn T
  have G6 : FnOk P w K mg base CX0 1 f6 fd6 ["numbers"] (spAlike K) := ok_alike D6.fn T
  refine F.ok scFair (fun vs H Q E h => ?_) (fun cdv A outer s H vs Q E hr h => ?_)
  · obtain ⟨_, _, _, _, _, _, rfl, _⟩ := h; rfl
  · obtain ⟨b, a, xs, rs, as, S, rfl, hB, hR, hrl, hpos, hSS, hn, h64, k⟩ := h
    obtain ⟨ha, hSh⟩ := id hSS
    obtain ⟨t1, d1⟩ := T.dry
    obtain ⟨t2, d2⟩ := T.wet
    have hu := hr.units
    have hu1 := Nat.lt_of_le_of_lt (Nat.add_le_add_left (show 1 ≤ 64 by decide) _) hu
    refine ⟨_, pss_cons (ps_set (i := 2) scFair.nd rfl (Or.inl rfl) (pe_call G4 hr rfl D4.gl D4.fn.kp D4.bd .nil pass0 (pa_cons (pv 1) pa_nil)))
      (pss_cons (ps_if (PW.pt (pw_or (pt_not (pt_val (pe_callB (call_all rfl) rfl T.all PyProof.Rows.boot_all (pa_cons (pe_comp (Nc := ["share"]) (fv := [none]) ⟨rfl, by decide +kernel, rfl, by decide +kernel, trivial, by decide +kernel, rfl, trivial⟩ rfl (pi_list (pv 1))
            (fun _ _ _ _ _ => pg_name (i := 0) (show (["share"] : List Str).Nodup by decide +kernel) rfl (Or.inl rfl)) (fun _ _ _ _ _ => pif_nil) (fun _ _ _ _ _ => pe_call G3 hr rfl D3.gl D3.fn.kp D3.bd .nil pass0 (pa_cons (pv 0) pa_nil))) pa_nil))))
          (pw_or1 (pt_not (pt_val (pe_call G5 hr rfl D5.gl D5.fn.kp D5.bd .nil pass0 (pa_cons (pv 2) (pa_cons (pe_call G1 hr rfl D1.gl D1.fn.kp D1.bd .nil pass0 (pa_cons (pv 0) pa_nil)) pa_nil)))))))) (pss_one (ps_ret pe_bl)) pss_nil)
      (pss_cons (ps_comp (i := 3) (Nc := ["start", "end", "heir"]) (fv := [none, none, none]) ⟨rfl, by decide +kernel, rfl, by decide +kernel, trivial, by decide +kernel, rfl, trivial⟩ scFair.nd rfl (Or.inl rfl) rfl (pi_list (pv 2))
          (fun _ _ _ _ _ => pg_tupK (K := K) (n := 3) rfl rfl (pgs_cons (pg_name (i := 0) (show (["start", "end", "heir"] : List Str).Nodup by decide +kernel) rfl (Or.inl rfl)) (pgs_cons (pg_name (i := 1) (show (["start", "end", "heir"] : List Str).Nodup by decide +kernel) rfl (Or.inl rfl)) (pgs_cons (pg_name (i := 2) (show (["start", "end", "heir"] : List Str).Nodup by decide +kernel) rfl (Or.inl rfl)) pgs_nil))))
          (fun _ _ _ _ _ => pif_nil) (fun _ _ _ _ _ => pe_tup (pa_cons (pv 2) (pa_cons (pe_op op_sub (pv 1) (pv 0)) pa_nil))))
      (pss_cons (ps_set (i := 4) scFair.nd rfl (Or.inl rfl) (pe_disp (pps_cons (pe_glob (v := .str "dry") rfl d1 ⟨_, rfl⟩) (pe_op op_rep (pe_lst (pa_cons pe_int pa_nil)) (pe_callB call_len_seq rfl T.len PySem.boot_len (pa_cons (pv 1) pa_nil)))
          (pps_cons (pe_glob (v := .str "wet") rfl d2 ⟨_, rfl⟩) (pe_op op_rep (pe_lst (pa_cons pe_int pa_nil)) (pe_callB call_len_seq rfl T.len PySem.boot_len (pa_cons (pv 1) pa_nil))) pps_nil)) rfl rfl (by simp) (by decide)))
      (pss_cons (ps_for PassesOwn.never rfl (pi_list (pe_call G2 hr rfl D2.gl D2.fn.kp D2.bd .nil pass0 (pa_cons (pv 0) (pa_cons (pv 3) pa_nil)))) (pg_tup rfl (pgs_cons (pg_name (i := 5) scFair.nd rfl (Or.inl rfl)) (pgs_cons (pg_name (i := 6) scFair.nd rfl (Or.inl rfl)) (pgs_cons (pg_name (i := 7) scFair.nd rfl (Or.inl rfl)) pgs_nil))))
        (pss_one (ps_asg (pe_op op_add (pe_ix ix_list (pe_dget hu1 (pv 4) (pv 5) (fun _ _ => rfl)) (pv 6) (fun _ _ => rfl)) (pv 7)) (pg_sub (pe_dget hu1 (pv 4) (pv 5) (fun _ _ => rfl)) (pv 6) set_list))))
      (pss_one (ps_ret (pe_and (pe_call G6 hr rfl D6.gl D6.fn.kp D6.bd .nil pass0 (pa_cons (pe_dget hu1 (pv 4) (pe_glob (v := .str "dry") rfl d1 ⟨_, rfl⟩) (fun _ _ => rfl)) pa_nil))
        (pe_one (pe_call G6 hr rfl D6.gl D6.fn.kp D6.bd .nil pass0 (pa_cons (pe_dget hu1 (pv 4) (pe_glob (v := .str "wet") rfl d2 ⟨_, rfl⟩) (fun _ _ => rfl)) pa_nil)))))))))), ?_⟩
    have hlS := Paired.length hSh
    refine ⟨_, rfl, a, as, S, rfl, hSS, h64, hn, fun pp ys H1 s1 hpp hy1 hT1 => ?_⟩
    have lT := Paired.length hT1
    have perm := srt3_perm (Fr.trips 0 S)
    have lP : (srt3 (Fr.trips 0 S)).length < 64 := by rw [perm.length_eq, trips_length]; exact h64
    -- all apart
    refine ⟨_, rfl, a, rfl, ⟨_, SqL.of (s1 _ _ ha)⟩, fun pl hpl => ?_⟩
    refine comp_list (K := K) (a := a) (xs := as.map V.ref) (fun i zs H2 => Same H1 H2 ∧ H2 pl = some (.lst zs) ∧ zs = ((S.take i).map Fr.apart).map V.bl) ⟨same_new hpl, upd_same, rfl⟩ (fun i zs H2 h => ⟨(s1.trans h.1).seq (SqL.of ha), h.2.1⟩) ?_ ?_
    · rintro i x zs H2 hi hx ⟨sm, hz, rfl⟩
      rw [List.getElem?_map, Option.map_eq_some_iff] at hx
      obtain ⟨c, hc, rfl⟩ := hx
      obtain ⟨ps, hps, hps2⟩ := paired_get hSh hc
      have hpl2 : ps.length ≤ 300 := by
        have := totP_take (S := S) (i + 1)
        have e : S.take (i + 1) = S.take i ++ [ps] := take_snoc hps
        have : totP (S.take (i + 1)) = totP (S.take i) + ps.length := by rw [e]; simp [totP]
        (first | lia | omega)
      refine ⟨(Wk.refl _).set rfl, yes ?_⟩
      refine ⟨_, rfl, c, ps, rfl, hps2.mono (s1.trans sm), hpl2, fun H3 s3 => ?_⟩
      refine ⟨s3 _ _ hz, ?_, nx hi ⟨(sm.trans s3).write hpl, upd_same, ?_⟩⟩
      · refine Nat.lt_of_le_of_lt (m := 1000) ?_ (by decide)
        simp only [List.length_map, List.length_take]; (first | lia | omega)
      · rw [take_snoc hps]; simp
    rintro zs H2 ⟨sm2, hz, rfl⟩
    rw [List.length_map, show as.length = S.length from hlS, List.take_length] at hz
    have s2 := s1.trans sm2
    refine ⟨pl, _, rfl, SqL.of hz, _, rfl, ?_⟩
    have ea : (S.map Fr.apart).all id = S.all Fr.apart := by simp [List.all_map]
    rw [ea]
    cases hA : S.all Fr.apart with
    | false =>
      refine iteT ?_
      have e : fairB rs S = false := by unfold fairB; rw [hA]; rfl
      have := k H2 s2
      rw [e] at this
      exact iteT this
    | true =>
      refine iteF ?_
      refine ⟨_, rfl, _, rfl, b, xs, rs, rfl, s2.seq hB, hR.mono s2.tps, by (first | lia | omega), fun H3 s3 => ?_⟩
      have s3' := s2.trans s3
      have hT3 := T3sAt.mono hT1 (sm2.trans s3).tps
      have hy3 : H3 pp = some (.lst ys) := s3 _ _ (sm2 _ _ hy1)
      refine ⟨pp, ys, _, _, rfl, SqL.of hy3, hT3, fun H4 s4 => ⟨_, rfl, ?_⟩⟩
      have s4' := s3'.trans s4
      cases hC : Fr.cover (Bk.tot rs) 0 (srt3 (Fr.trips 0 S)) with
      | false =>
        have e : fairB rs S = false := by unfold fairB; rw [hA, hC]; rfl
        have := k H4 s4'
        rw [e] at this
        exact iteT this
      | true =>
        refine iteF ?_
        have hT4 := T3sAt.mono hT3 s4.tps
        have hy4 : H4 pp = some (.lst ys) := s4 _ _ hy3
        -- owners
        refine ⟨_, rfl, pp, rfl, ⟨_, SqL.of hy4⟩, fun po hpo => ?_⟩
        refine comp_list (K := K) (a := pp) (xs := ys) (fun i zs H5 => Same H4 H5 ∧ H5 po = some (.lst zs) ∧ NRsAt H5 zs (((srt3 (Fr.trips 0 S)).take i).map fun t => (V.int t.2.2, t.2.1 - t.1))) ⟨same_new hpo, upd_same, .nil⟩ (fun i zs H5 h => ⟨h.1.seq (SqL.of hy4), h.2.1⟩) ?_ ?_
        · rintro i x zs H5 hi hx ⟨sm5, hz5, hN5⟩
          obtain ⟨t, ht, hq0⟩ := paired_get hT4 hx
          obtain ⟨q, rfl, hq⟩ := T3At.mono hq0 sm5.tps
          have lz := Paired.length hN5
          refine ⟨q, _, rfl, SqT.of hq, rfl, _, _, rfl, _, _, rfl, _, _, rfl, rfl, (((Wk.refl _).set rfl).set rfl).set rfl, yes ?_⟩
          refine ⟨_, rfl, _, rfl, _, rfl, _, _, rfl, rfl, by show 2 ≤ sizeLine; decide, fun Z hZ => ?_⟩
          have g3 := same_new (o := .tup [.int t.2.2, .int (t.2.1 - t.1)]) hZ
          have hz6 := g3 _ _ hz5
          refine ⟨hz6, ?_, nx hi ⟨(sm5.trans g3).write hpo, upd_same, ?_⟩⟩
          · refine Nat.lt_of_le_of_lt (m := 1000) ?_ (by decide)
            simp only [List.length_map, List.length_take] at lz; (first | lia | omega)
          · rw [take_snoc ht, List.map_append]
            have tps : ∀ o, Tps (upd H5 Z (.tup [.int t.2.2, .int (t.2.1 - t.1)])) (upd (upd H5 Z (.tup [.int t.2.2, .int (t.2.1 - t.1)])) po o) := fun o b zs z => by rw [upd_ne (fun y => by rw [y, hz6] at z; cases z)]; exact z
            exact Paired.snoc ((NRsAt.mono hN5 g3.tps).mono (tps _)) ⟨Z, rfl, tps _ _ _ upd_same⟩
        rintro zs H5 ⟨sm5, hz5, hN5⟩
        rw [lT, List.take_length] at hN5
        have s5 := s4'.trans sm5
        have eo : ((srt3 (Fr.trips 0 S)).map fun t => (V.int t.2.2, t.2.1 - t.1)) = (ownersOf S).map fun p => (V.int p.1, p.2) := by unfold ownersOf; rw [List.map_map]; rfl
        rw [eo] at hN5
        -- the sums
        intro d hd
        have g6 := same_new (o := .dK []) hd
        have hd6 : upd H5 d (.dK []) d = some (.dK []) := upd_same
        have hdH : H d = none := s5.free hd
        have s6 := s5.trans g6
        have hz6 := g6 _ _ hz5
        have hN6 := NRsAt.mono hN5 g6.tps
        generalize upd H5 d (.dK []) = H6 at g6 hd6 s6 hz6 hN6 ⊢
        refine ⟨by show 1 ≤ sizeLine; decide, fun l0 hl0 => ?_⟩
        have g7 := same_new (o := .lst [.int 0]) hl0
        have hl07 : upd H6 l0 (.lst [.int 0]) l0 = some (.lst [.int 0]) := upd_same
        generalize upd H6 l0 (.lst [.int 0]) = H7 at g7 hl07 ⊢
        have s7 := s6.trans g7
        have zL : ((as.map V.ref).length : Int).toNat = S.length := by rw [Int.toNat_natCast, List.length_map]; exact hlS
        have zr : ∀ g, (List.replicate ((as.map V.ref).length : Int).toNat [V.int 0]).flatten = (Fr.sumL g S.length []).map V.int := fun g => by
          rw [zL, Fr.sumL_nil, List.map_replicate]
          generalize S.length = m
          induction m with
          | zero => rfl
          | succ m ih => rw [List.replicate_succ, List.flatten_cons, ih, List.replicate_succ]; rfl
        have lA : (as.map V.ref).length ≤ 300 := by rw [List.length_map]; (first | lia | omega)
        have zz : ([V.int 0]).length * ((as.map V.ref).length : Int).toNat ≤ sizeLine := Nat.le_trans (m := 300) (by rw [zL]; simp; (first | lia | omega)) (by decide)
        refine ⟨_, rfl, a, _, rfl, .inl (SqL.of (s7 _ _ ha)), l0, _, _, rfl, rfl, hl07, by (first | lia | omega), by (first | lia | omega), zz, fun pd hpd => ?_⟩
        rw [zr true]
        have g8 := same_new (o := .lst ((Fr.sumL true S.length []).map V.int)) hpd
        have hd7 : H7 d = some (.dK []) := g7 _ _ hd6
        have ndp : d ≠ pd := ne_of_none hd7 hpd
        have hpdH : H pd = none := s7.free hpd
        have hpd8 : upd H7 pd (.lst ((Fr.sumL true S.length []).map V.int)) pd = some (.lst ((Fr.sumL true S.length []).map V.int)) := upd_same
        generalize upd H7 pd (.lst ((Fr.sumL true S.length []).map V.int)) = H8 at g8 hpd8 ⊢
        have s8 := s7.trans g8
        refine ⟨by show 1 ≤ sizeLine; decide, fun l1 hl1 => ?_⟩
        have g9 := same_new (o := .lst [.int 0]) hl1
        have hl19 : upd H8 l1 (.lst [.int 0]) l1 = some (.lst [.int 0]) := upd_same
        generalize upd H8 l1 (.lst [.int 0]) = H9 at g9 hl19 ⊢
        have s9 := s8.trans g9
        have hpd9 := g9 _ _ hpd8
        refine ⟨_, rfl, a, _, rfl, .inl (SqL.of (s9 _ _ ha)), l1, _, _, rfl, rfl, hl19, by (first | lia | omega), by (first | lia | omega), zz, fun pw hpw => ?_⟩
        rw [zr false]
        have gA := same_new (o := .lst ((Fr.sumL false S.length []).map V.int)) hpw
        have hd9 : H9 d = some (.dK []) := g9 _ _ (g8 _ _ hd7)
        have ndw : d ≠ pw := ne_of_none hd9 hpw
        have npw : pd ≠ pw := ne_of_none hpd9 hpw
        have hpwH : H pw = none := s9.free hpw
        have hpwA : upd H9 pw (.lst ((Fr.sumL false S.length []).map V.int)) pw = some (.lst ((Fr.sumL false S.length []).map V.int)) := upd_same
        have hpdA := gA _ _ hpd9
        have hdA := gA _ _ hd9
        have g6A := ((g7.trans g8).trans g9).trans gA
        generalize upd H9 pw (.lst ((Fr.sumL false S.length []).map V.int)) = HA at gA hpwA hpdA hdA g6A ⊢
        refine ⟨hdA, dkv (.ref pd) (.ref pw), rfl, (by show 2 ≤ 15; decide), ?_⟩
        rw [merge_two]
        have sA := s9.trans gA
        have sB : Same H (upd HA d (.dK (dkv (.ref pd) (.ref pw)))) := sA.write hdH
        have hdB : upd HA d (.dK (dkv (.ref pd) (.ref pw))) d = some (.dK (dkv (.ref pd) (.ref pw))) := upd_same
        have tB : Tps HA (upd HA d (.dK (dkv (.ref pd) (.ref pw)))) := fun c zs e => by rw [upd_ne (fun z => by rw [z, hdA] at e; cases e)]; exact e
        have hpdB : upd HA d (.dK (dkv (.ref pd) (.ref pw))) pd = some (.lst ((Fr.sumL true S.length []).map V.int)) := by rw [upd_ne (Ne.symm ndp)]; exact hpdA
        have hpwB : upd HA d (.dK (dkv (.ref pd) (.ref pw))) pw = some (.lst ((Fr.sumL false S.length []).map V.int)) := by rw [upd_ne (Ne.symm ndw)]; exact hpwA
        have hzB : upd HA d (.dK (dkv (.ref pd) (.ref pw))) po = some (.lst zs) := by rw [upd_ne (ne_of (g6A _ _ hz6) hdA (fun z => by cases z))]; exact g6A _ _ hz6
        have hNB := NRsAt.mono (NRsAt.mono hN6 g6A.tps) tB
        generalize upd HA d (.dK (dkv (.ref pd) (.ref pw))) = HB at sB hdB tB hpdB hpwB hzB hNB ⊢
        -- side by side
        have n1 : Bk.ntot (rs.map nr) = Bk.tot rs := by rw [← Bk.ntot_tot]; exact ntot_map (fun g => V.str (gs g)) rs
        have n2 : Bk.ntot ((ownersOf S).map fun p => (V.int p.1, p.2)) = Bk.tot rs := by
          rw [ntot_map (fun h : Int => V.int h)]
          have := Fr.cover_ntot hC
          unfold ownersOf; rw [this]; (first | lia | omega)
        have oP : ∀ r ∈ (ownersOf S), 0 < r.2 := fun r hr => by
          unfold ownersOf at hr
          obtain ⟨t, ht, rfl⟩ := List.mem_map.mp hr
          have := ((Fr.cover_low hC).1 t ht).2
          show 0 < t.2.1 - t.1
          (first | lia | omega)
        have lO : (ownersOf S).length < 64 := by unfold ownersOf; rw [List.length_map]; exact lP
        refine ⟨_, rfl, _, rfl, b, po, xs, zs, rs.map nr, (ownersOf S).map fun p => (V.int p.1, p.2), rfl, sB.seq hB, rows_nr (hR.mono sB.tps), SqL.of hzB, hNB, fun r hr => ?_, fun r hr => ?_, by rw [n1, n2], by rw [List.length_map, List.length_map]; (first | lia | omega), fun pr rz HC sC hpr hprC hTr => ?_⟩
        · obtain ⟨q, hq, rfl⟩ := List.mem_map.mp hr; exact hpos q hq
        · obtain ⟨q, hq, rfl⟩ := List.mem_map.mp hr; exact oP q hq
        have eR : Bk.sbs (rs.map nr) ((ownersOf S).map fun p => (V.int p.1, p.2)) = (runsF rs S).map fun p => (V.str (gs p.1), V.int p.2.1, p.2.2) := Bk.sbs_map (fun g => V.str (gs g)) (fun h : Int => V.int h) _ rs (ownersOf S) (Nat.le_refl _)
        rw [eR] at hTr
        have lR := Paired.length hTr
        rw [List.length_map] at lR
        have heirs : ∀ p ∈ runsF rs S, ∃ j : Nat, j < S.length ∧ p.2.1 = j := fun p hp => by
          obtain ⟨q, hq, e⟩ := Fr.sbs_mem _ rs (ownersOf S) (Nat.le_refl _) p hp
          unfold ownersOf at hq
          obtain ⟨t, ht, rfl⟩ := List.mem_map.mp hq
          have hh := Fr.trips_heir (perm.mem_iff.mp ht)
          have e' : t.2.2 = p.2.1 := e
          exact ⟨t.2.2.toNat, by (first | lia | omega), by (first | lia | omega)⟩
        have sC' := sB.trans sC
        have nprd : pr ≠ pd := fun z => by rw [z, hpdB] at hpr; cases hpr
        have nprw : pr ≠ pw := fun z => by rw [z, hpwB] at hpr; cases hpr
        have nprk : pr ≠ d := fun z => by rw [z, hdB] at hpr; cases hpr
        refine ⟨pr, rfl, ⟨_, SqL.of hprC⟩, ?_⟩
        refine for_list (K := K) (a := pr) (xs := rz) (fun i σ H2 => ∃ z5 z6 z7, σ = [some (.ref b), some (.ref a), some (.ref pp), some (.ref po), some (.ref d), z5, z6, z7] ∧ Same H H2 ∧ H2 d = some (.dK (dkv (.ref pd) (.ref pw))) ∧
          H2 pd = some (.lst ((Fr.sumL true S.length ((runsF rs S).take i)).map V.int)) ∧ H2 pw = some (.lst ((Fr.sumL false S.length ((runsF rs S).take i)).map V.int)) ∧ H2 pr = some (.lst rz) ∧ TrsAt H2 rz ((runsF rs S).map fun p => (V.str (gs p.1), V.int p.2.1, p.2.2)))
          ⟨none, none, none, rfl, sC', sC _ _ hdB, sC _ _ hpdB, sC _ _ hpwB, hprC, hTr⟩ ?_ ?_ ?_
        · rintro i σ H2 hi ⟨z5, z6, z7, rfl, sm, h1, h2, h3, h4, h5⟩
          exact SqL.of h4
        · rintro i x σ H2 hx ⟨z5, z6, z7, rfl, sm, h1, h2, h3, h4, h5⟩
          obtain ⟨rr, hrr, q, rfl, hq⟩ := paired_get h5 hx
          rw [List.getElem?_map, Option.map_eq_some_iff] at hrr
          obtain ⟨⟨g, h, l⟩, hrun, rfl⟩ := hrr
          obtain ⟨j, hj, ej⟩ := heirs _ (List.mem_of_getElem? hrun)
          have ej' : h = (j : Int) := ej
          subst ej'
          have tk : (runsF rs S).take (i + 1) = (runsF rs S).take i ++ [(g, (j : Int), l)] := take_snoc hrun
          refine ⟨q, _, rfl, SqT.of hq, rfl, _, _, rfl, _, _, rfl, _, _, rfl, rfl, ?_⟩
          have dg : DGet H2 d (.str (gs g)) (some (if g = true then V.ref pd else V.ref pw)) := by
            have := DGet.k (k := Sum.inr (gs g)) h1
            rw [val_two] at this
            exact this
          cases g with
          | true =>
            have hx2 : ((Fr.sumL true S.length ((runsF rs S).take i)).map V.int)[j]? = some (.int (Fr.adds true j ((runsF rs S).take i))) := by rw [List.getElem?_map, Fr.sumL_get hj]; rfl
            refine ⟨_, rfl, _, rfl, d, .ref pd, rfl, dg, _, rfl, pd, _, _, _, rfl, rfl, SqL.of h2, atI_nat hx2, _, rfl, _, _, rfl, rfl, ?_⟩
            refine ⟨_, rfl, _, rfl, d, .ref pd, rfl, dg, _, rfl, pd, _, _, j, rfl, rfl, h2, ixN_nat (by rw [List.length_map, Fr.sumL_len]; exact hj), ?_⟩
            have tp := tps_lst (o := .lst (((Fr.sumL true S.length ((runsF rs S).take i)).map V.int).set j (.int (Fr.adds true j ((runsF rs S).take i) + l)))) h2
            refine ⟨_, _, _, rfl, sm.write hpdH, by rw [upd_ne ndp]; exact h1, ?_, ?_, by rw [upd_ne nprd]; exact h4, h5.mono tp⟩
            · rw [upd_same, tk, Fr.sumL_snoc hj, List.map_set]
            · rw [upd_ne (Ne.symm npw), tk, Fr.sumL_other (by decide)]; exact h3
          | false =>
            have hx2 : ((Fr.sumL false S.length ((runsF rs S).take i)).map V.int)[j]? = some (.int (Fr.adds false j ((runsF rs S).take i))) := by rw [List.getElem?_map, Fr.sumL_get hj]; rfl
            refine ⟨_, rfl, _, rfl, d, .ref pw, rfl, dg, _, rfl, pw, _, _, _, rfl, rfl, SqL.of h3, atI_nat hx2, _, rfl, _, _, rfl, rfl, ?_⟩
            refine ⟨_, rfl, _, rfl, d, .ref pw, rfl, dg, _, rfl, pw, _, _, j, rfl, rfl, h3, ixN_nat (by rw [List.length_map, Fr.sumL_len]; exact hj), ?_⟩
            have tp := tps_lst (o := .lst (((Fr.sumL false S.length ((runsF rs S).take i)).map V.int).set j (.int (Fr.adds false j ((runsF rs S).take i) + l)))) h3
            refine ⟨_, _, _, rfl, sm.write hpwH, by rw [upd_ne ndw]; exact h1, ?_, ?_, by rw [upd_ne nprw]; exact h4, h5.mono tp⟩
            · rw [upd_ne npw, tk, Fr.sumL_other (by decide)]; exact h2
            · rw [upd_same, tk, Fr.sumL_snoc hj, List.map_set]
        · rintro σ H2 ⟨z5, z6, z7, rfl, sm, h1, h2, h3, h4, h5⟩
          rw [lR, List.take_length] at h2 h3
          have dgD : DGet H2 d (.str "dry") (some (V.ref pd)) := by
            have := DGet.k (k := Sum.inr (gs true)) h1
            rw [val_two] at this
            exact this
          have fe : fairB rs S = (Fr.alike (Fr.sumL true S.length (runsF rs S)) && Fr.alike (Fr.sumL false S.length (runsF rs S))) := by unfold fairB; rw [hA, hC]; rfl
          refine ⟨_, rfl, d, .ref pd, rfl, dgD, pd, _, rfl, SqL.of h2, by rw [Fr.sumL_len]; (first | lia | omega), fun H3 s3 => ⟨_, rfl, ?_⟩⟩
          have dgW : DGet H3 d (.str "wet") (some (V.ref pw)) := by
            have := DGet.k (k := Sum.inr (gs false)) (s3 _ _ h1)
            rw [val_two] at this
            exact this
          cases hD : Fr.alike (Fr.sumL true S.length (runsF rs S)) with
          | false =>
            have := k H3 (sm.trans s3)
            rw [fe, hD] at this
            exact iteF this
          | true =>
            refine iteT ?_
            refine ⟨_, rfl, d, .ref pw, rfl, dgW, pw, _, rfl, SqL.of (s3 _ _ h3), by rw [Fr.sumL_len]; (first | lia | omega), fun H4 s4 => ?_⟩
            have := k H4 ((sm.trans s3).trans s4)
            rw [fe, hD, Bool.true_and] at this
            exact this
end
end Q7

set_option linter.all false
namespace Srt
theorem pairwise_consec {α : Type} {f : α → Int} {l : List α} (h : ∀ i x y, l[i]? = some x → l[i + 1]? = some y → f x ≤ f y) : l.Pairwise fun x y => f x ≤ f y := by
  rw [List.pairwise_iff_getElem]
  have key : ∀ (d i : Nat) (hi : i < l.length) (hj : i + d < l.length), f l[i] ≤ f l[i + d] := by
    intro d
    induction d with
    | zero => intro i hi hj; exact Int.le_refl _
    | succ d ih =>
      intro i hi hj
      have h1 := ih i hi (by (first | lia | omega))
      have h2 := h (i + d) l[i + d] l[i + d + 1] (List.getElem?_eq_getElem (by (first | lia | omega))) (List.getElem?_eq_getElem (by (first | lia | omega)))
      exact Int.le_trans h1 h2
  intro i j hi hj hij
  have := key (j - i) i hi (by (first | lia | omega))
  have e : i + (j - i) = j := by (first | lia | omega)
  simpa [e] using this
theorem out_fst {α : Type} {enc : α → List Int} {m : Nat} (hm : ∀ a, (enc a).length = m) {f : α → Int} (hf : ∀ a, ∃ t, enc a = f a :: t) (d : α) (l : List α) : (out (rank (l.map enc)) d l).Pairwise fun x y => f x ≤ f y := by
  apply pairwise_consec
  intro i x y hx hy
  obtain ⟨a, b, ha, hb, rfl, rfl, hk⟩ := out_up hx hy
  have hl : (l.map enc).length = l.length := List.length_map ..
  have r := rank_lt (ts := l.map enc) (m := m) (i := b) (j := a) (fun t ht => by obtain ⟨q, _, rfl⟩ := List.mem_map.mp ht; exact hm q) (by (first | lia | omega)) (by (first | lia | omega))
  have ga : (l.map enc).getD a [] = enc (l.getD a d) := by simp [List.getD_eq_getElem?_getD, ha]
  have gb : (l.map enc).getD b [] = enc (l.getD b d) := by simp [List.getD_eq_getElem?_getD, hb]
  rw [decide_eq_false (by (first | lia | omega)), ga, gb] at r
  obtain ⟨s, es⟩ := hf (l.getD a d)
  obtain ⟨t, et⟩ := hf (l.getD b d)
  rw [es, et] at r
  simp only [lx] at r
  have r' := r.symm
  rw [Bool.or_eq_false_iff] at r'
  have := r'.1
  simp at this
  exact this
end Srt

set_option Elab.async false
set_option linter.all false
set_option maxRecDepth 100000
set_option maxHeartbeats 4000000
namespace K7
open PySem L2
noncomputable abbrev sCell : Stmt := Q7.top 13
noncomputable abbrev sLWh : Stmt := Q7.top 14
noncomputable abbrev sLong : Stmt := Q7.top 15
noncomputable abbrev sPut : Stmt := Q7.top 16
noncomputable abbrev sJoin : Stmt := Q7.top 17
structure Pl (mg : Str → Option Value) : Prop where
  isi : mg "isinstance" = none
  int : mg "int" = none
  bool : mg "bool" = none
  list : mg "list" = none
  tuple : mg "tuple" = none
  len : mg "len" = none
  sum : mg "sum" = none
  max : mg "max" = none
  min : mg "min" = none
  range : mg "range" = none
  sorted : mg "sorted" = none
section
variable {K : PySem.W.Frag}
theorem kit_int_int : PySem.W.kitOne K (.type "int") (.type "int") = some true := rfl
theorem kit_int_bool : PySem.W.kitOne K (.type "int") (.type "bool") = some false := by kernel_rfl
end
theorem take_snoc {α : Type} {l : List α} {i : Nat} {x : α} (h : l[i]? = some x) : l.take (i + 1) = l.take i ++ [x] := by
  rw [List.take_add_one, h]; rfl
theorem min_eq (i j : Int) : (if j < i then j else i) = min i j := by split <;> (first | lia | omega)
noncomputable def cellN (ns : List Int) (k : Int) : Int := ns.getD k.toNat 0
theorem four {a b c d i : Int} (ha : 0 < a) (hb : 0 < b) (hc : 0 < c) (hd : 0 < d) (h0 : 0 ≤ i) (h1 : i < 4) : ∃ m, 0 < m ∧ atI [V.int a, V.int b, V.int c, V.int d] i = some (.int m) := by
  have : i = 0 ∨ i = 1 ∨ i = 2 ∨ i = 3 := by (first | lia | omega)
  rcases this with rfl | rfl | rfl | rfl
  · exact ⟨a, ha, rfl⟩
  · exact ⟨b, hb, rfl⟩
  · exact ⟨c, hc, rfl⟩
  · exact ⟨d, hd, rfl⟩
section
variable {P : Program} {w : World} {K : PySem.W.Frag} {mg : Str → Option Value} {base : Heap}
noncomputable def spCell (K : PySem.W.Frag) : Sp := fun vs H Q _ => ∃ (a : Addr) (ns : List Int) (k : Int), vs = [.ref a, .int k] ∧ SqL K H a (ns.map V.int) ∧ 0 ≤ k ∧ Q (.int (cellN ns k)) H
theorem scCe : FnScope ["_law_script", "_law_k"] ["_law_script", "_law_k"] (defScope sCell) := ⟨rfl, rfl, rfl, by decide +kernel, rfl, by decide +kernel, by decide +kernel⟩
seal L2.PSs L2.PS L2.PE L2.PA L2.PT L2.PW
theorem ok_cell {f : Addr} {fd : FuncData} (F : FunG K "_law_cell_at" "_law_cell_at" sCell f fd .none) (T : Pl mg) : FnOk P w K mg base CX0 1 f fd ["_law_script", "_law_k"] (spCell K) := by
  refine F.ok scCe (fun vs H Q E h => ?_) (fun cdv A outer s H vs Q E hr h => ?_)
  · obtain ⟨v, r, pl, rfl, _⟩ := h; rfl
  · obtain ⟨a, ns, k, rfl, hS, h0, q⟩ := h
    refine ⟨_, pss_cons (ps_if (pt_cmpR op_lt (pv 1) (pe_callB call_len_seq rfl T.len PySem.boot_len (pa_cons (pv 0) pa_nil)) (nomark _)) (pss_one (ps_ret (pe_ix ix_list (pv 0) (pv 1) (fun _ _ => rfl)))) pss_nil) (pss_one (ps_ret pe_int)), ?_⟩
    refine ⟨_, rfl, _, rfl, a, _, rfl, .inl hS, _, _, rfl, rfl, _, rfl, ?_⟩
    refine ite2 (fun z => ?_) (fun z => ?_)
    · have z' : k < ((ns.map V.int).length : Int) := of_decide_eq_true z
      rw [List.length_map] at z'
      have hk : k.toNat < ns.length := by (first | lia | omega)
      refine ⟨_, rfl, _, rfl, a, _, k, .int (cellN ns k), rfl, rfl, hS, ?_, q⟩
      have e : k = ((k.toNat : Nat) : Int) := by (first | lia | omega)
      have h := atI_nat (xs := ns.map V.int) (j := k.toNat) (v := .int (cellN ns k)) (by
        rw [List.getElem?_map, List.getElem?_eq_getElem hk]
        simp [cellN, hk])
      rw [← e] at h
      exact h
    · have z' : ¬ k < ((ns.map V.int).length : Int) := fun y => z (decide_eq_true y)
      rw [List.length_map] at z'
      have : cellN ns k = 0 := by
        unfold cellN
        rw [List.getD_eq_getElem?_getD, List.getElem?_eq_none (by (first | lia | omega))]
        rfl
      rw [this] at q
      exact q
theorem scLW : FnScope ["_law_found"] ["_law_found"] (defScope sLWh) := ⟨rfl, rfl, rfl, by decide +kernel, rfl, by decide +kernel, by decide +kernel⟩
noncomputable def spLWh : Sp := fun vs H Q _ => ∃ i, vs = [.int i] ∧ Q (.bl true) H
theorem ok_lwh {f : Addr} {fd : FuncData} (F : FunG K "_law_whole" "_law_whole" sLWh f fd .none) (T : Pl mg) : FnOk P w K mg base CX0 1 f fd ["_law_found"] spLWh := by
  refine F.ok scLW (fun vs H Q E h => ?_) (fun cdv A outer s H vs Q E hr h => ?_)
  · obtain ⟨g, rfl, _⟩ := h; rfl
  · obtain ⟨i, rfl, k⟩ := h
    refine ⟨_, pss_one (ps_ret (pe_and (pe_callB call_isi rfl T.isi PyProof.Rows.boot_isinstance (pa_cons (pv 0) (pa_cons (pe_bltn (v := .ty "int") rfl T.int PyProof.Rows.boot_int rfl) pa_nil)))
      (pe_one (pe_not (pe_callB call_isi rfl T.isi PyProof.Rows.boot_isinstance (pa_cons (pv 0) (pa_cons (pe_bltn (v := .ty "bool") rfl T.bool PyProof.Rows.boot_bool rfl) pa_nil))))))), ?_⟩
    refine ⟨_, rfl, _, _, _, rfl, .of (.int _), .inl ⟨rfl, true, kit_int_int, true, rfl, iteT ?_⟩⟩
    exact ⟨_, rfl, _, _, _, rfl, .of (.int _), .inl ⟨rfl, false, kit_int_bool, false, rfl, k⟩⟩

noncomputable def spLong : Sp := fun vs H Q _ => ∃ c, vs = [.int c] ∧ ∀ (l : Int) H', Same H H' → 0 ≤ l → Q (.int l) H'
theorem scLo : FnScope ["_law_cell", "_law_most"] ["_law_cell"] (defScope sLong) := ⟨rfl, rfl, rfl, by decide +kernel, rfl, by decide +kernel, by decide +kernel⟩
theorem ok_long {f : Addr} {fd : FuncData} (F : FunG K "_law_long" "_law_long" sLong f fd .none) (T : Pl mg) : FnOk P w K mg base CX0 1 f fd ["_law_cell"] spLong := by
  refine F.ok scLo (fun vs H Q E h => ?_) (fun cdv A outer s H vs Q E hr h => ?_)
  · obtain ⟨g, rfl, _⟩ := h; rfl
  · obtain ⟨c, rfl, k⟩ := h
    refine ⟨_, pss_cons (ps_set (i := 1) scLo.nd rfl (Or.inl rfl) (pe_ix ix_list (pe_lst (pa_cons pe_int (pa_cons pe_int (pa_cons (pe_op op_add (pe_op op_pow pe_int pe_int) pe_int) (pa_cons (pe_op op_pow pe_int pe_int) pa_nil))))) (pe_op op_mod (pv 0) pe_int) (fun _ _ => rfl)))
      (pss_one (ps_ret (pe_op op_mod (pe_op op_fdiv (pv 0) pe_int) (pv 1)))), ?_⟩
    refine ⟨_, _, rfl, rfl, ⟨by decide, by decide, by decide⟩, _, _, rfl, rfl, _, _, rfl, rfl, ⟨by decide, by decide, by decide⟩, by show 4 ≤ sizeLine; decide, fun pb hpb => ?_⟩
    obtain ⟨m, hm, em⟩ := four (a := 4) (b := 13) (c := 10 ^ (18 : Int).toNat + 1) (d := 10 ^ (58 : Int).toNat) (i := c % 4) (by decide) (by decide) (by decide) (by decide) (Int.emod_nonneg _ (by decide)) (Int.emod_lt_of_pos _ (by decide))
    refine ⟨_, rfl, _, _, rfl, rfl, (by decide : (0 : Int) < 4), pb, _, _, .int m, rfl, rfl, SqL.of upd_same, em, ?_⟩
    refine ⟨_, rfl, _, _, rfl, rfl, ⟨by decide, by decide⟩, _, rfl, _, _, rfl, rfl, hm, k _ _ (same_new hpb) ?_⟩
    exact Int.emod_nonneg (c / 4) (show m ≠ 0 by (first | lia | omega))
theorem cut_front (ws : List V) (v : V) : cutV (ws ++ [v]) none (some (-1)) = ws := by
  have h : HT.sIx (ws ++ [v]).length (ws ++ [v]).length (some (-1)) = ws.length := by
    unfold HT.sIx
    simp only [if_pos (show (-1 : Int) < 0 by decide)]
    simp only [List.length_append, List.length_singleton]
    (first | lia | omega)
  unfold cutV
  rw [h]
  show List.take (ws.length - 0) (List.drop 0 (ws ++ [v])) = ws
  simp
noncomputable def spPut : Sp := fun vs H Q _ => ∃ a xs rs g l, vs = [.ref a, .str (gs g), .int l] ∧ H a = some (.lst xs) ∧ RowsAt H xs rs ∧ 0 ≤ l ∧ rs.length ≤ 200 ∧ ∀ p ys H', Same H H' → (p = a ∨ H p = none) → H' p = some (.lst ys) → RowsAt H' ys (Bk.put rs (g, l)) → Q (.ref p) H'
theorem scPut : FnScope ["_law_rows_here", "_law_ground", "_law_long_here"] ["_law_rows_here", "_law_ground", "_law_long_here"] (defScope sPut) := ⟨rfl, rfl, rfl, by decide +kernel, rfl, by decide +kernel, by decide +kernel⟩
theorem put_zero (rs : List Bk.Rw) (g : Bool) : Bk.put rs (g, 0) = rs := by
  rcases Bk.snoc_cases rs with rfl | ⟨i, b, rfl⟩
  · rw [Bk.put_nil, if_neg (by simp)]
  · rw [Bk.put_snoc]
    split
    · rename_i e
      have e' : b.1 = g := e
      rw [← e']; simp
    · rw [if_neg (by simp)]
theorem ok_put {f : Addr} {fd : FuncData} (F : FunG K "_law_put" "_law_put" sPut f fd .none) (T : Pl mg) : FnOk P w K mg base CX0 1 f fd ["_law_rows_here", "_law_ground", "_law_long_here"] spPut := by
  refine F.ok scPut (fun vs H Q E h => ?_) (fun cdv A outer s H vs Q E hr h => ?_)
  · obtain ⟨_, _, _, _, _, rfl, _⟩ := h; rfl
  · obtain ⟨a, xs, rs, g, l, rfl, ha, hR, hl, hn, k⟩ := h
    refine ⟨_, pss_cons (ps_if (pt_cmpR op_eq (pv 2) pe_int (nomark _)) (pss_one (ps_ret (pv 0))) pss_nil)
      (pss_cons (ps_if (PW.pt (pw_and (pt_cmpR (op_neD hr.units) (pv 0) (pe_lst pa_nil) (nomark _)) (pw_and1 (pt_cmpR op_eq (pe_ix ix_tup (pe_ix ix_list (pv 0) (pe_un un_neg pe_int) (fun _ _ => rfl)) pe_int (fun _ _ => rfl)) (pv 1) (nomark _)))))
        (pss_one (ps_ret (pe_op op_cat (pe_slice sl_list (pv 0) po_none (po_some (pe_un un_neg pe_int))) (pe_lst (pa_cons (pe_tup (pa_cons (pv 1) (pa_cons (pe_op op_add (pe_ix ix_tup (pe_ix ix_list (pv 0) (pe_un un_neg pe_int) (fun _ _ => rfl)) pe_int (fun _ _ => rfl)) (pv 2)) pa_nil))) pa_nil))))) pss_nil)
      (pss_one (ps_ret (pe_op op_cat (pv 0) (pe_lst (pa_cons (pe_tup (pa_cons (pv 1) (pa_cons (pv 2) pa_nil))) pa_nil)))))), ?_⟩
    have hlen := Paired.length hR
    refine ⟨_, rfl, rfl, _, rfl, ite2 (fun z => ?_) (fun z => ?_)⟩
    · have z' : l = 0 := by have := of_decide_eq_true z; injection this
      subst z'
      refine ⟨_, rfl, k a xs H (Same.refl _) (.inl rfl) ha ?_⟩
      rw [put_zero]; exact hR
    have z' : l ≠ 0 := fun q => z (decide_eq_true (by rw [q]))
    have lp : 0 < l := by (first | lia | omega)
    -- the row put behind
    have fin : ∀ H3, Same H H3 → Bk.put rs (g, l) = rs ++ [(g, l)] → tRet (tOp rCat (tVar 0) (tLst (tCons (tTup (tCons (tVar 1) (tCons (tVar 2) tNil))) tNil))) { nx := fun _ H' => Q .non H', rt := Q } [some (.ref a), some (.str (gs g)), some (.int l)] H3 := fun H3 s3 em => by
      refine ⟨_, rfl, _, rfl, _, rfl, by show 2 ≤ sizeLine; decide, fun Z hZ => ⟨by show 1 ≤ sizeLine; decide, fun q hq => ?_⟩⟩
      have g1 := same_new (o := .tup [.str (gs g), .int l]) hZ
      have g2 := same_new (o := .lst [.ref Z]) hq
      have sg := (s3.trans g1).trans g2
      refine ⟨a, q, xs, [.ref Z], rfl, rfl, sg _ _ ha, upd_same, Nat.le_trans (m := 1000) (by simp; (first | lia | omega)) (by decide), fun c hc => ?_⟩
      have g3 := same_new (o := .lst (xs ++ [.ref Z])) hc
      refine k c _ _ (sg.trans g3) (.inr (sg.free hc)) upd_same ?_
      rw [em]
      exact Paired.snoc (hR.mono (sg.trans g3).tps) ⟨Z, rfl, g3 _ _ (g2 _ _ upd_same)⟩
    refine ⟨_, rfl, Nat.zero_le _, fun n1 hn1 => ?_⟩
    have t1 := same_new (o := .lst []) hn1
    have g1 : upd H n1 (.lst []) n1 = some (.lst []) := upd_same
    generalize upd H n1 (.lst []) = H1 at t1 g1 ⊢
    refine ⟨rowsD rs, rowsD [], rows_dat (SqL.of (t1 _ _ ha)) (hR.mono t1.tps), rows_dat (SqL.of g1) .nil, rowsD_can _, rowsD_can _, rowsD_depth _, ?_⟩
    rcases Bk.snoc_cases rs with e0 | ⟨i0, b, e0⟩
    · subst e0
      refine ⟨false, by rw [if_pos rfl, eqv_rows]; rfl, iteF (iteF ?_)⟩
      exact fin H1 t1 (by rw [Bk.put_nil, if_pos lp]; rfl)
    · subst e0
      obtain ⟨ws, v, rfl, hws, ⟨qb, rfl, hqb⟩⟩ := hR.split
      refine ⟨true, by rw [if_pos rfl, eqv_rows]; simp, iteT ?_⟩
      have la : atI (ws ++ [V.ref qb]) (-1) = some (.ref qb) := atI_last ws (.ref qb)
      refine ⟨_, rfl, _, rfl, a, _, -1, _, rfl, rfl, SqL.of (t1 _ _ ha), la, qb, _, 0, _, rfl, rfl, SqT.of (t1 _ _ hqb), rfl, _, rfl, rfl, _, rfl, ?_⟩
      refine ite2 (fun y => ?_) (fun y => ?_)
      · have y1 : V.str (gs b.1) = V.str (gs g) := of_decide_eq_true y
        have y2 : b.1 = g := gs_inj.mp (V.str.inj y1)
        refine ⟨_, rfl, _, rfl, _, rfl, a, _, rfl, SqL.of (t1 _ _ ha), fun pf hpf => ?_⟩
        rw [cut_front]
        have g2 := same_new (o := .lst ws) hpf
        have s2 := t1.trans g2
        have hpf2 : upd H1 pf (.lst ws) pf = some (.lst ws) := upd_same
        generalize upd H1 pf (.lst ws) = H2 at g2 s2 hpf2 ⊢
        refine ⟨_, rfl, _, rfl, _, rfl, a, _, -1, _, rfl, rfl, SqL.of (s2 _ _ ha), la, qb, _, 1, _, rfl, rfl, SqT.of (s2 _ _ hqb), rfl, _, rfl, _, _, rfl, rfl, by show 2 ≤ sizeLine; decide, fun Z hZ => ⟨by show 1 ≤ sizeLine; decide, fun q hq => ?_⟩⟩
        have g3 := same_new (o := .tup [.str (gs g), .int (b.2 + l)]) hZ
        have g4 := same_new (o := .lst [.ref Z]) hq
        have sg := (s2.trans g3).trans g4
        refine ⟨pf, q, ws, [.ref Z], rfl, rfl, g4 _ _ (g3 _ _ hpf2), upd_same, Nat.le_trans (m := 1000) (by simp at hlen hn ⊢; (first | lia | omega)) (by decide), fun c hc => ?_⟩
        have g5 := same_new (o := .lst (ws ++ [.ref Z])) hc
        refine k c _ _ (sg.trans g5) (.inr (sg.free hc)) upd_same ?_
        rw [Bk.put_snoc, if_pos y2]
        exact Paired.snoc (hws.mono (sg.trans g5).tps) ⟨Z, rfl, g5 _ _ (g4 _ _ upd_same)⟩
      · have y2 : ¬ b.1 = g := fun q => y (decide_eq_true (by rw [q]))
        exact fin H1 t1 (by rw [Bk.put_snoc, if_neg y2, if_pos lp])
end
end K7

set_option Elab.async false
set_option linter.all false
set_option maxRecDepth 100000
set_option maxHeartbeats 4000000
namespace K7
open PySem L2
noncomputable def pc2 (p : Pc) : List Int := [p.1, p.2]
noncomputable def srt2 (l : List Pc) : List Pc := Srt.out (Srt.rank (l.map pc2)) (0, 0) l
theorem srt2_perm (l : List Pc) : (srt2 l).Perm l := Srt.out_perm _ _ _
theorem srt2_up (l : List Pc) : (srt2 l).Pairwise fun x y => x.1 ≤ y.1 := Srt.out_fst (enc := pc2) (m := 2) (fun _ => rfl) (f := fun p => p.1) (fun p => ⟨[p.2], rfl⟩) (0, 0) l
theorem srt2_id {l : List Pc} (h : l.Pairwise fun x y => x.1 < y.1) : srt2 l = l := Fr.sorted_uniq (f := fun p : Pc => p.1) (srt2_perm l) ((srt2_up l).imp fun z => by (first | lia | omega)) h
theorem pcs_tups {H : Hp} : ∀ {vs : List V} {ps : List Pc}, PcsAt H vs ps → Paired (TAt H) vs (ps.map pc2)
  | _, _, .nil => .nil
  | _, _, .cons r t => .cons r (pcs_tups t)
theorem pcs_split {H : Hp} {ps : List Pc} {p : Pc} : ∀ {xs : List V}, PcsAt H xs (ps ++ [p]) → ∃ ws v, xs = ws ++ [v] ∧ PcsAt H ws ps ∧ PcAt H v p := by
  induction ps with
  | nil =>
    intro xs h
    cases h with
    | cons h t => cases t; exact ⟨[], _, rfl, .nil, h⟩
  | cons q ps ih =>
    intro xs h
    cases h with
    | cons h t =>
      obtain ⟨ws, v, rfl, h1, h2⟩ := ih t
      exact ⟨_ :: ws, v, rfl, .cons h h1, h2⟩
section
variable {P : Program} {w : World} {K : PySem.W.Frag} {mg : Str → Option Value} {base : Heap}
seal L2.PSs L2.PS L2.PE L2.PA L2.PT L2.PW
noncomputable def spJoin : Sp := fun vs H Q _ => ∃ a ps, vs = [.ref a] ∧ ShAt H a ps ∧ ps.length < 64 ∧ ∀ p H', Same H H' → H p = none → ShAt H' p (Fr.joinS (srt2 ps)) → Q (.ref p) H'
theorem scJo : FnScope ["_law_share", "_law_made", "_law_start", "_law_end"] ["_law_share"] (defScope sJoin) := ⟨rfl, rfl, rfl, by decide +kernel, rfl, by decide +kernel, by decide +kernel⟩
theorem ok_join {f : Addr} {fd : FuncData} (F : FunG K "_law_joined" "_law_joined" sJoin f fd .none) (T : Pl mg) : FnOk P w K mg base CX0 1 f fd ["_law_share"] spJoin := by
  refine F.ok scJo (fun vs H Q E h => ?_) (fun cdv A outer s H vs Q E hr h => ?_)
  · obtain ⟨_, _, rfl, _⟩ := h; rfl
  · obtain ⟨a, ps, rfl, ⟨xs, ha, hP⟩, h64, k⟩ := h
    refine ⟨_, pss_cons (ps_set (i := 1) scJo.nd rfl (Or.inl rfl) (pe_lst pa_nil))
      (pss_cons (ps_for PassesOwn.never rfl (pi_list (pe_callB call_sortedT rfl T.sorted PyProof.Rows.boot_sorted (pa_cons (pv 0) pa_nil))) (pg_tup rfl (pgs_cons (pg_name (i := 2) scJo.nd rfl (Or.inl rfl)) (pgs_cons (pg_name (i := 3) scJo.nd rfl (Or.inl rfl)) pgs_nil)))
        (pss_one (ps_if (PW.pt (pw_and (pt_cmpR (op_neD hr.units) (pv 1) (pe_lst pa_nil) (nomark _)) (pw_and1 (pt_cmpR op_eq (pe_ix ix_tup (pe_ix ix_list (pv 1) (pe_un un_neg pe_int) (fun _ _ => rfl)) pe_int (fun _ _ => rfl)) (pv 2) (nomark _)))))
          (pss_one (ps_asg (pe_tup (pa_cons (pe_ix ix_tup (pe_ix ix_list (pv 1) (pe_un un_neg pe_int) (fun _ _ => rfl)) pe_int (fun _ _ => rfl)) (pa_cons (pv 3) pa_nil))) (pg_sub (pv 1) (pe_un un_neg pe_int) set_list)))
          (pss_one (ps_expr (pe_bm PySem.F.plainAttrs_list PySem.F.slot_list_append PySem.F.type_list_append mt_append (pv 1) (pa_cons (pe_tup (pa_cons (pv 2) (pa_cons (pv 3) pa_nil))) pa_nil)))))))
      (pss_one (ps_ret (pv 1)))), ?_⟩
    have hlen := Paired.length hP
    refine ⟨Nat.zero_le _, fun p hp => ?_⟩
    have s1 := same_new (o := .lst []) hp
    have hp1 : upd H p (.lst []) p = some (.lst []) := upd_same
    generalize upd H p (.lst []) = H1 at s1 hp1 ⊢
    refine ⟨_, rfl, a, xs, ps.map pc2, 2, rfl, SqL.of (s1 _ _ ha), pcs_tups (PcsAt.mono hP s1.tps), fun t ht => ?_, by decide, by rw [List.length_map]; exact h64, fun l hl => ?_⟩
    · obtain ⟨q, _, rfl⟩ := List.mem_map.mp ht; rfl
    have g2 := same_new (o := .lst (Srt.out (Srt.rank (ps.map pc2)) .non xs)) hl
    have hlP : PcsAt H (Srt.out (Srt.rank (ps.map pc2)) .non xs) (srt2 ps) := Srt.out_paired _ hP
    have hl2 : upd H1 l (.lst (Srt.out (Srt.rank (ps.map pc2)) .non xs)) l = some (.lst (Srt.out (Srt.rank (ps.map pc2)) .non xs)) := upd_same
    generalize Srt.out (Srt.rank (ps.map pc2)) .non xs = ys at hl2 hlP g2 ⊢
    have nl : l ≠ p := fun z => by rw [z, hp1] at hl; cases hl
    have hlH : H l = none := s1.free hl
    have s2 := s1.trans g2
    have hp2 := g2 _ _ hp1
    generalize upd H1 l (.lst ys) = H2 at hl2 g2 s2 hp2 ⊢
    have hly := Paired.length hlP
    have lsr : (srt2 ps).length < 64 := by rw [(srt2_perm ps).length_eq]; exact h64
    refine ⟨l, rfl, ⟨_, SqL.of hl2⟩, ?_⟩
    refine for_list (K := K) (a := l) (xs := ys) (fun i σ H3 => ∃ z2 z3 ws, σ = [some (.ref a), some (.ref p), z2, z3] ∧ Same H H3 ∧ H3 l = some (.lst ys) ∧ H3 p = some (.lst ws) ∧ PcsAt H3 ws (Fr.joinS ((srt2 ps).take i))) ⟨none, none, [], rfl, s2, hl2, hp2, .nil⟩ ?_ ?_ ?_
    · rintro i σ H3 hi ⟨z2, z3, ws, rfl, sm, hl3, _⟩
      exact SqL.of hl3
    · rintro i x σ H3 hx ⟨z2, z3, ws, rfl, sm, hl3, hp3, hW⟩
      obtain ⟨r, hr1, hr2⟩ := paired_get hlP hx
      obtain ⟨q, rfl, hq⟩ := hr2.mono sm.tps
      have lw := Paired.length hW
      have jl := Fr.joinS_length ((srt2 ps).take i)
      rw [List.length_take] at jl
      have tk : Fr.joinS ((srt2 ps).take (i + 1)) = Fr.jp (Fr.joinS ((srt2 ps).take i)) r := by rw [take_snoc hr1, Fr.joinS_snoc]
      refine ⟨q, _, rfl, SqT.of hq, rfl, _, _, rfl, _, _, rfl, rfl, ?_⟩
      refine ⟨_, rfl, Nat.zero_le _, fun n1 hn1 => ?_⟩
      have t1 := same_new (o := .lst []) hn1
      have g1 : upd H3 n1 (.lst []) n1 = some (.lst []) := upd_same
      generalize upd H3 n1 (.lst []) = H4 at t1 g1 ⊢
      have hp4 := t1 _ _ hp3
      have hW4 := PcsAt.mono hW t1.tps
      have sm4 := sm.trans t1
      have hl4 := t1 _ _ hl3
      refine ⟨shD (Fr.joinS ((srt2 ps).take i)), shD [], sh_dat ⟨ws, hp4, hW4⟩, sh_dat ⟨[], g1, .nil⟩, shD_can _, shD_can _, Nat.le_trans (shD_depth _) (by decide), ?_⟩
      have npl : p ≠ l := fun z => nl z.symm
      rcases Bk.snoc_cases (Fr.joinS ((srt2 ps).take i)) with e0 | ⟨i0, b, e0⟩
      · rw [e0] at hW4
        cases hW4
        refine ⟨false, by rw [if_pos rfl, eqv_sh, e0]; rfl, iteF (iteF ?_)⟩
        refine ⟨_, rfl, .inl ⟨rfl, _, SqL.of hp4⟩, _, rfl, _, rfl, by show 2 ≤ sizeLine; decide, fun Z hZ => ?_⟩
        have g5 := same_new (o := .tup [.int r.1, .int r.2]) hZ
        have npZ : p ≠ Z := ne_of_none hp4 hZ
        refine ⟨p, [], _, rfl, rfl, g5 _ _ hp4, by decide, ?_⟩
        refine ⟨_, _, _, rfl, (sm4.trans g5).write hp, by rw [upd_ne npl.symm]; exact g5 _ _ hl4, upd_same, ?_⟩
        rw [tk, e0, Fr.jp_nil]
        exact .cons ⟨Z, rfl, by rw [upd_ne npZ.symm, upd_same]⟩ .nil
      · rw [e0] at hW4
        obtain ⟨us, v, rfl, hU, ⟨qb, rfl, hqb⟩⟩ := pcs_split hW4
        refine ⟨true, by rw [if_pos rfl, eqv_sh, e0]; simp, iteT ?_⟩
        have la : atI (us ++ [V.ref qb]) (-1) = some (.ref qb) := atI_last us (.ref qb)
        refine ⟨_, rfl, _, rfl, p, _, -1, _, rfl, rfl, SqL.of hp4, la, qb, _, 1, _, rfl, rfl, SqT.of hqb, rfl, _, rfl, rfl, _, rfl, ?_⟩
        refine ite2 (fun y => ?_) (fun y => ?_)
        · have y1 : b.2 = r.1 := by have := of_decide_eq_true y; injection this
          refine ⟨_, rfl, _, rfl, p, _, -1, _, rfl, rfl, SqL.of hp4, la, qb, _, 0, _, rfl, rfl, SqT.of hqb, rfl, _, rfl, by show 2 ≤ sizeLine; decide, fun Z hZ => ?_⟩
          have npZ : p ≠ Z := ne_of_none hp4 hZ
          have ix : ixN (us ++ [V.ref qb]).length (-1) = some us.length := by
            unfold ixN
            rw [if_neg (by decide), if_pos (by simp; (first | lia | omega))]
            congr 1
            simp; (first | lia | omega)
          have g5 := same_new (o := .tup [.int b.1, .int r.2]) hZ
          refine ⟨_, rfl, _, rfl, p, _, -1, us.length, rfl, rfl, g5 _ _ hp4, ix, ?_⟩
          have tps : Tps H4 (upd (upd H4 Z (.tup [.int b.1, .int r.2])) p (.lst ((us ++ [V.ref qb]).set us.length (.ref Z)))) := fun c xs e => by
            rw [upd_ne (fun z => by rw [z, hp4] at e; cases e), upd_ne (ne_of_none e hZ)]; exact e
          refine ⟨_, _, us ++ [.ref Z], rfl, (sm4.trans g5).write hp, by rw [upd_ne npl.symm]; exact g5 _ _ hl4, ?_, ?_⟩
          · rw [upd_same]; simp
          · rw [tk, e0, Fr.jp_snoc, if_pos y1]
            exact Paired.snoc (PcsAt.mono hU tps) ⟨Z, rfl, by rw [upd_ne npZ.symm, upd_same]⟩
        · have y1 : ¬ b.2 = r.1 := fun q => y (decide_eq_true (by rw [q]))
          refine ⟨_, rfl, .inl ⟨rfl, _, SqL.of hp4⟩, _, rfl, _, rfl, by show 2 ≤ sizeLine; decide, fun Z hZ => ?_⟩
          have g5 := same_new (o := .tup [.int r.1, .int r.2]) hZ
          have npZ : p ≠ Z := ne_of_none hp4 hZ
          refine ⟨p, _, _, rfl, rfl, g5 _ _ hp4, Nat.lt_of_le_of_lt (m := 64) (by (first | lia | omega)) (by decide), ?_⟩
          have tps : Tps H4 (upd (upd H4 Z (.tup [.int r.1, .int r.2])) p (.lst ((us ++ [V.ref qb]) ++ [.ref Z]))) := fun c xs e => by
            rw [upd_ne (fun z => by rw [z, hp4] at e; cases e), upd_ne (ne_of_none e hZ)]; exact e
          refine ⟨_, _, _, rfl, (sm4.trans g5).write hp, by rw [upd_ne npl.symm]; exact g5 _ _ hl4, upd_same, ?_⟩
          rw [tk, e0, Fr.jp_snoc, if_neg y1]
          exact Paired.snoc (Paired.snoc (PcsAt.mono hU tps) ⟨qb, rfl, tps _ _ hqb⟩) ⟨Z, rfl, by rw [upd_ne npZ.symm, upd_same]⟩
    · rintro σ H3 ⟨z2, z3, ws, rfl, sm, hl3, hp3, hW⟩
      rw [hly, List.take_length] at hW
      exact ⟨_, rfl, k p H3 sm hp ⟨ws, hp3, hW⟩⟩
end
end K7

set_option Elab.async false
set_option linter.all false
set_option maxRecDepth 100000
set_option maxHeartbeats 4000000
namespace K7
open PySem L2
noncomputable abbrev sDealt : Stmt := Q7.top 18
theorem shs_set {H : Hp} {c : Addr} {ys zs : List V} {ps : List Pc} (hc : H c = some (.lst ys)) (hz : PcsAt (upd H c (.lst zs)) zs ps) : ∀ {as : List Addr} {S : List (List Pc)} {i : Nat}, ShsAt H as S → as.Nodup → as[i]? = some c → ShsAt (upd H c (.lst zs)) as (S.set i ps)
  | a :: as, s :: S, 0, .cons _ t, nd, e => by
    have e' : a = c := by simpa using e
    subst e'
    have nd' := List.nodup_cons.mp nd
    exact .cons ⟨zs, upd_same, hz⟩ (ShsAt.write hc t fun b hb z => nd'.1 (z ▸ hb))
  | a :: as, s :: S, i + 1, .cons h t, nd, e => by
    have nd' := List.nodup_cons.mp nd
    have e' : as[i]? = some c := by simpa using e
    have ne : a ≠ c := fun z => nd'.1 (z ▸ List.mem_of_getElem? e')
    exact .cons (ShAt.write h ne hc) (shs_set hc hz t nd'.2 e')
noncomputable def Good (n : Nat) (rs : List Bk.Rw) (S : List (List Pc)) : Prop :=
  ∃ R : List Fr.Rp, Fr.Gp R ∧ (∀ r ∈ R, 0 ≤ r.1 ∧ r.1 < n) ∧ rs = Bk.tidy (Fr.rawB R) ∧ S = (Fr.sharesOf 0 n (Fr.pcsOf 0 R)).map (fun s => Fr.joinS (srt2 s)) ∧ (∀ g h, 0 ≤ h → h < (n : Int) → Fr.hs g h R = Fr.hs g 0 R) ∧ R.length ≤ 24 ∧ (Fr.rawB R).length = 2 * R.length
structure Mk (H H2 : Hp) (n : Nat) (pb ps : Addr) (as : List Addr) (R : List Fr.Rp) : Prop where
  same : Same H H2
  bank : ∃ bs, H2 pb = some (.lst bs) ∧ RowsAt H2 bs (Bk.tidy (Fr.rawB R))
  shs : SsAt H2 ps as (Fr.sharesOf 0 n (Fr.pcsOf 0 R))
  fps : H ps = none
  fas : ∀ a ∈ as, H a = none ∧ a ≠ ps
  nd : as.Nodup
  len : as.length = n
  gp : Fr.Gp R
  hr : ∀ r ∈ R, 0 ≤ r.1 ∧ r.1 < n
  small : (Fr.rawB R).length = 2 * R.length
  nb : pb ∉ as
noncomputable abbrev opP (ta tb : TE) : TE := tOp (rI0 fun i j => V.int (i + j)) ta tb
noncomputable abbrev opM (ta tb : TE) : TE := tOp (rI (fun _ j => 0 < j) fun i j => V.int (i % j)) ta tb
noncomputable def tsPut (K : PySem.W.Frag) : TS := tFor (iList K (tVar 10)) (gTup K 2 (gCons (gName 11) (gCons (gName 12) gNil))) (tAsg (tCall spPut [] E0 (tCons (tVar 2) (tCons (tVar 11) (tCons (tVar 12) tNil)))) (gName 2))
noncomputable def tsEnd (K : PySem.W.Frag) : TS := tSeq (tsPut K) (tSeq (tDrop (tBM K "list" rAppend (tOp (rIxL K) (tVar 3) (opM (opP (tVar 6) (tVar 9)) (tVar 1))) (tCons (tTup (tCons (tVar 4) (tCons (opP (opP (tVar 4) (tVar 7)) (tVar 8)) tNil))) tNil)))
  (tAsg (opP (opP (tVar 4) (tVar 7)) (tVar 8)) (gName 4)))
noncomputable def tsBody (K : PySem.W.Frag) : TS := tSeq (tAsg (tLst (tCons (tTup (tCons (tC (V.str "dry")) (tCons (tVar 7) tNil))) (tCons (tTup (tCons (tC (V.str "wet")) (tCons (tVar 8) tNil))) tNil))) (gName 10))
  (tSeq (tIfS (tAnd (tTest (tOp rEq (opM (tOp (rI CDiv fun i j => V.int (i / j)) (tVar 6) (tC (V.int 5))) (tC (V.int 2))) (tC (V.int 1)))) (tTest (tOp rEq (opM (tVar 9) (tC (V.int 2))) (tC (V.int 1)))))
    (tAsg (tLst (tCons (tTup (tCons (tC (V.str "wet")) (tCons (tVar 8) tNil))) (tCons (tTup (tCons (tC (V.str "dry")) (tCons (tVar 7) tNil))) tNil))) (gName 10)) tNext) (tsEnd K))
noncomputable def tsInner (K : PySem.W.Frag) : TS := tFor (iRng1 (tCons (tVar 1) tNil)) (gName 9) (tsBody K)
theorem end_ok {K : PySem.W.Frag} {H H6 : Hp} {n j : Nat} {a pb1 ps pr : Addr} {as : List Addr} {R : List Fr.Rp} {c d w : Int} {rows : List Bk.Rw} {xs : List V} {z5 z11 z12 : Option V} {D : Ends} (n1 : 1 ≤ n) (mk : Mk H H6 n pb1 ps as R) (hpr : H6 pr = some (.lst xs)) (hrow : RowsAt H6 xs rows)
    (rn : ∀ x ∈ rows, 0 ≤ x.2) (rt : Bk.tot rows = d + w) (rl : rows.length = 2) (hdw : 0 < d + w) (hR : R.length ≤ 24)
    (k : ∀ pb2 z11 z12 H', Mk H H' n pb2 ps as (R ++ [((c + (j : Int)) % n, rows)]) → D.nx [some (.ref a), some (.int n), some (.ref pb2), some (.ref ps), some (.int (Bk.tot (Fr.rawB (R ++ [((c + (j : Int)) % n, rows)])))), z5, some (.int c), some (.int d), some (.int w), some (.int j), some (.ref pr), z11, z12] H') :
    tsEnd K D [some (.ref a), some (.int n), some (.ref pb1), some (.ref ps), some (.int (Bk.tot (Fr.rawB R))), z5, some (.int c), some (.int d), some (.int w), some (.int j), some (.ref pr), z11, z12] H6 := by
  have lr := Paired.length hrow
  refine ⟨_, rfl, pr, rfl, ⟨_, SqL.of hpr⟩, ?_⟩
  obtain ⟨bs, hb, hB⟩ := mk.bank
  refine for_list (K := K) (a := pr) (xs := xs) (fun i σ H7 => ∃ pb2 bs2 z11 z12, σ = [some (.ref a), some (.int n), some (.ref pb2), some (.ref ps), some (.int (Bk.tot (Fr.rawB R))), z5, some (.int c), some (.int d), some (.int w), some (.int j), some (.ref pr), z11, z12] ∧
    Same H6 H7 ∧ pb2 ∉ as ∧ H7 pb2 = some (.lst bs2) ∧ RowsAt H7 bs2 (Bk.tidy (Fr.rawB R ++ rows.take i))) ⟨pb1, bs, _, _, rfl, Same.refl _, mk.nb, hb, by simpa using hB⟩ ?_ ?_ ?_
  · rintro i σ H7 hi ⟨pb2, bs2, z11, z12, rfl, sm, _⟩
    exact sm.seq (SqL.of hpr)
  · rintro i x σ H7 hx ⟨pb2, bs2, z11, z12, rfl, sm, nb2, hb2, hB2⟩
    obtain ⟨r, hr1, hr2⟩ := paired_get hrow hx
    obtain ⟨q, rfl, hq⟩ := hr2.mono sm.tps
    refine ⟨q, _, rfl, SqT.of hq, rfl, _, _, rfl, _, _, rfl, rfl, ?_⟩
    refine ⟨_, rfl, _, rfl, _, rfl, pb2, bs2, _, r.1, r.2, rfl, hb2, hB2, rn r (List.mem_of_getElem? hr1), ?_, fun p ys H8 s8 hpp h1 h2 => ?_⟩
    · have := Bk.tidy_length (Fr.rawB R ++ rows.take i)
      rw [List.length_append, mk.small, List.length_take] at this
      (first | lia | omega)
    · refine ⟨_, _, _, _, rfl, sm.trans s8, ?_, h1, ?_⟩
      · rcases hpp with e | e
        · rw [e]; exact nb2
        · intro hm
          obtain ⟨iy, hiy, ey⟩ := List.getElem_of_mem hm
          obtain ⟨sh, _, ys', hys', _⟩ := paired_get (SsAt.mono mk.shs sm).2 (List.getElem?_eq_getElem hiy)
          rw [ey, e] at hys'; cases hys'
      rw [Q7.take_snoc hr1, ← List.append_assoc, Bk.tidy_snoc]
      exact h2
  · rintro σ H7 ⟨pb2, bs2, z11, z12, rfl, sm, nb2, hb2, hB2⟩
    rw [lr, List.take_length] at hB2
    have hn0 : (0 : Int) < n := by (first | lia | omega)
    have m0 := Int.emod_nonneg (c + (j : Int)) (show (n : Int) ≠ 0 by (first | lia | omega))
    have m1 := Int.emod_lt_of_pos (c + (j : Int)) hn0
    obtain ⟨ix, hix⟩ : ∃ ix : Nat, (c + (j : Int)) % n = ix := ⟨((c + (j : Int)) % n).toNat, by (first | lia | omega)⟩
    have ixn : ix < n := by (first | lia | omega)
    have ixa : ix < as.length := by rw [mk.len]; exact ixn
    obtain ⟨hps, hSh⟩ := SsAt.mono mk.shs sm
    have ha1 : as[ix]? = some as[ix] := List.getElem?_eq_getElem ixa
    obtain ⟨sh, hsh, ys, hys, hP⟩ := paired_get hSh ha1
    have esh : sh = Fr.fil ix (Fr.pcsOf 0 R) := by
      rw [Fr.sharesOf_get n 0 _ ix ixn] at hsh
      have := Option.some.inj hsh
      rw [← this]; simp
    have lsh : sh.length ≤ 24 := by
      rw [esh]
      unfold Fr.fil
      rw [List.length_map]
      have h1 := List.length_filter_le (fun t : Fr.Tr => decide (t.2.2 = (ix : Int))) (Fr.pcsOf 0 R)
      rw [Fr.pcsOf_length] at h1
      (first | lia | omega)
    have lp := Paired.length hP
    have hat : atI (as.map V.ref) ((c + (j : Int)) % n) = some (.ref as[ix]) := by
      rw [hix]
      exact atI_nat (by rw [List.getElem?_map, ha1]; rfl)
    refine ⟨_, rfl, _, rfl, _, rfl, _, _, rfl, rfl, _, rfl, _, _, rfl, rfl, hn0, ps, _, _, .ref as[ix], rfl, rfl, SqL.of hps, hat, ?_⟩
    refine ⟨.inl ⟨rfl, _, SqL.of hys⟩, _, rfl, _, rfl, _, rfl, _, _, rfl, rfl, _, rfl, _, _, rfl, rfl, by show 2 ≤ sizeLine; decide, fun Z hZ => ?_⟩
    generalize hA : as[ix] = cA at hys ha1
    have g8 := same_new (o := .tup [.int (Bk.tot (Fr.rawB R)), .int (Bk.tot (Fr.rawB R) + d + w)]) hZ
    have hys8 := g8 _ _ hys
    have hZ8 : upd H7 Z (.tup [.int (Bk.tot (Fr.rawB R)), .int (Bk.tot (Fr.rawB R) + d + w)]) Z = some (.tup [.int (Bk.tot (Fr.rawB R)), .int (Bk.tot (Fr.rawB R) + d + w)]) := upd_same
    have s8 := sm.trans g8
    generalize upd H7 Z (.tup [.int (Bk.tot (Fr.rawB R)), .int (Bk.tot (Fr.rawB R) + d + w)]) = H8 at g8 hys8 hZ8 s8 ⊢
    refine ⟨cA, ys, _, rfl, rfl, hys8, Nat.lt_of_le_of_lt (m := 30) (by (first | lia | omega)) (by decide), ?_⟩
    refine ⟨_, rfl, _, rfl, _, _, rfl, rfl, _, rfl, _, _, rfl, rfl, ?_⟩
    have hcA : cA ∈ as := by rw [← hA]; exact List.getElem_mem ixa
    have tot' : Bk.tot (Fr.rawB (R ++ [((c + (j : Int)) % n, rows)])) = Bk.tot (Fr.rawB R) + d + w := by
      rw [Fr.rawB_append, Bk.tot_append]
      simp only [Fr.rawB, List.append_nil, rt]; (first | lia | omega)
    have tp : Tps H8 (upd H8 cA (.lst (ys ++ [.ref Z]))) := tps_lst hys8
    have kk := k pb2 z11 z12 (upd H8 cA (.lst (ys ++ [.ref Z]))) ?_
    · rw [tot'] at kk
      exact kk
    · have hps8 : H8 ps = some (.lst (as.map V.ref)) := g8 _ _ hps
      have ncp : ps ≠ cA := Ne.symm (mk.fas cA hcA).2
      have npb : pb2 ≠ cA := fun z => nb2 (z ▸ hcA)
      refine ⟨(mk.same.trans s8).write (mk.fas cA hcA).1, ?_, ⟨by rw [upd_ne ncp]; exact hps8, ?_⟩, mk.fps, mk.fas, mk.nd, mk.len, ?_, ?_, ?_, nb2⟩
      · refine ⟨bs2, by rw [upd_ne npb]; exact g8 _ _ hb2, ?_⟩
        rw [Fr.rawB_append]
        have e : Fr.rawB R ++ Fr.rawB [((c + (j : Int)) % n, rows)] = Fr.rawB R ++ rows := by simp [Fr.rawB]
        rw [e]
        exact (hB2.mono g8.tps).mono tp
      · have pe : Fr.pcsOf 0 (R ++ [((c + (j : Int)) % n, rows)]) = Fr.pcsOf 0 R ++ [(Bk.tot (Fr.rawB R), Bk.tot (Fr.rawB R) + d + w, (c + (j : Int)) % n)] := by
          rw [Fr.pcsOf_append]
          simp only [Fr.pcsOf, Int.zero_add, rt]
          rw [show Bk.tot (Fr.rawB R) + (d + w) = Bk.tot (Fr.rawB R) + d + w by (first | lia | omega)]
        rw [pe, Fr.sharesOf_snoc (k := ix) ixn (by show (c + (j : Int)) % n = 0 + ix; (first | lia | omega))]
        refine shs_set hys8 ?_ (ShsAt.mono hSh g8) mk.nd ha1
        rw [Int.zero_add, ← esh]
        exact Paired.snoc ((PcsAt.mono hP g8.tps).mono tp) ⟨Z, rfl, tp _ _ hZ8⟩
      · intro r hr
        rcases List.mem_append.mp hr with q | q
        · exact mk.gp r q
        · rw [List.mem_singleton.mp q]
          exact ⟨rn, by show 0 < Bk.tot rows; rw [rt]; exact hdw⟩
      · intro r hr
        rcases List.mem_append.mp hr with q | q
        · exact mk.hr r q
        · rw [List.mem_singleton.mp q]
          exact ⟨m0, m1⟩
      · rw [Fr.rawB_append, List.length_append, mk.small]
        simp [Fr.rawB, rl]; (first | lia | omega)
theorem inner_ok {K : PySem.W.Frag} {H H5 : Hp} {n : Nat} {a pb1 ps : Addr} {as : List Addr} {R : List Fr.Rp} {c d w : Int} {z5 z9 z10 z11 z12 : Option V} {D : Ends} (n1 : 1 ≤ n) (n5 : n ≤ 5) (mk : Mk H H5 n pb1 ps as R) (hd : 0 ≤ d) (hw : 0 ≤ w) (hdw : 0 < d + w) (hR : R.length + n ≤ 24)
    (k : ∀ pb2 z9 z10 z11 z12 H', Mk H H' n pb2 ps as (R ++ Fr.blk n c d w (decide (c / 5 % 2 = 1)) n) → D.nx [some (.ref a), some (.int n), some (.ref pb2), some (.ref ps), some (.int (Bk.tot (Fr.rawB (R ++ Fr.blk n c d w (decide (c / 5 % 2 = 1)) n)))), z5, some (.int c), some (.int d), some (.int w), z9, z10, z11, z12] H') :
    tsInner K D [some (.ref a), some (.int n), some (.ref pb1), some (.ref ps), some (.int (Bk.tot (Fr.rawB R))), z5, some (.int c), some (.int d), some (.int w), z9, z10, z11, z12] H5 := by
  refine ⟨_, rfl, _, rfl, by (first | lia | omega), by (first | lia | omega), ?_⟩
  refine for_range (lo := 0) (n := n) (fun j σ H6 => ∃ pb2 z9 z10 z11 z12, σ = [some (.ref a), some (.int n), some (.ref pb2), some (.ref ps), some (.int (Bk.tot (Fr.rawB (R ++ Fr.blk n c d w (decide (c / 5 % 2 = 1)) j)))), z5, some (.int c), some (.int d), some (.int w), z9, z10, z11, z12] ∧
    Mk H H6 n pb2 ps as (R ++ Fr.blk n c d w (decide (c / 5 % 2 = 1)) j)) ⟨pb1, z9, z10, z11, z12, by simp [Fr.blk], by simpa [Fr.blk] using mk⟩ ?_ ?_
  · rintro j σ H6 hj ⟨pb2, z9, z10, z11, z12, rfl, mk6⟩
    rw [Int.zero_add]
    have lb : (R ++ Fr.blk n c d w (decide (c / 5 % 2 = 1)) j).length ≤ 24 := by simp [Fr.blk]; (first | lia | omega)
    have nx' : ∀ pr z11 z12 pb3 H', Mk H H' n pb3 ps as ((R ++ Fr.blk n c d w (decide (c / 5 % 2 = 1)) j) ++ [((c + (j : Int)) % n, Fr.blkRow d w (decide (c / 5 % 2 = 1)) j)]) →
        ∃ pb2 z9 z10 z11' z12', [some (V.ref a), some (.int n), some (.ref pb3), some (.ref ps), some (.int (Bk.tot (Fr.rawB ((R ++ Fr.blk n c d w (decide (c / 5 % 2 = 1)) j) ++ [((c + (j : Int)) % n, Fr.blkRow d w (decide (c / 5 % 2 = 1)) j)])))), z5, some (.int c), some (.int d), some (.int w), some (.int j), some (.ref pr), z11, z12] = [some (V.ref a), some (.int n), some (.ref pb2), some (.ref ps), some (.int (Bk.tot (Fr.rawB (R ++ Fr.blk n c d w (decide (c / 5 % 2 = 1)) (j + 1))))), z5, some (.int c), some (.int d), some (.int w), z9, z10, z11', z12'] ∧ Mk H H' n pb2 ps as (R ++ Fr.blk n c d w (decide (c / 5 % 2 = 1)) (j + 1)) := fun pr z11 z12 pb3 H' m => by
      rw [Fr.blk_succ, ← List.append_assoc]
      exact ⟨pb3, _, _, _, _, rfl, m⟩
    have rn : ∀ x ∈ Fr.blkRow d w (decide (c / 5 % 2 = 1)) j, 0 ≤ x.2 := fun x hx => by
      simp only [Fr.blkRow] at hx
      split at hx <;> simp at hx <;> rcases hx with e | e <;> rw [e] <;> assumption
    have rl : (Fr.blkRow d w (decide (c / 5 % 2 = 1)) j).length = 2 := by unfold Fr.blkRow; split <;> rfl
    refine ⟨_, rfl, by show 2 ≤ sizeLine; decide, fun Z hZ => ⟨_, rfl, by show 2 ≤ sizeLine; decide, fun Y hY => ⟨by show 2 ≤ sizeLine; decide, fun pr hpr => ?_⟩⟩⟩
    have g1 := same_new (o := .tup [.str "dry", .int d]) hZ
    have g2 := same_new (o := .tup [.str "wet", .int w]) hY
    have g3 := same_new (o := .lst [.ref Z, .ref Y]) hpr
    have hZ3 := g3 _ _ (g2 _ _ (upd_same (H := H6) (a := Z) (o := .tup [.str "dry", .int d])))
    have hY3 := g3 _ _ (upd_same (H := upd H6 Z (.tup [.str "dry", .int d])) (a := Y) (o := .tup [.str "wet", .int w]))
    have hpr3 : upd (upd (upd H6 Z (.tup [.str "dry", .int d])) Y (.tup [.str "wet", .int w])) pr (.lst [.ref Z, .ref Y]) pr = some (.lst [.ref Z, .ref Y]) := upd_same
    have s3 := (g1.trans g2).trans g3
    generalize upd (upd (upd H6 Z (.tup [.str "dry", .int d])) Y (.tup [.str "wet", .int w])) pr (.lst [.ref Z, .ref Y]) = H7 at g3 hZ3 hY3 hpr3 s3 ⊢
    have row3 : RowsAt H7 [.ref Z, .ref Y] [(true, d), (false, w)] := .cons ⟨Z, rfl, hZ3⟩ (.cons ⟨Y, rfl, hY3⟩ .nil)
    have mk7 : ∀ H8, Same H7 H8 → Mk H H8 n pb2 ps as (R ++ Fr.blk n c d w (decide (c / 5 % 2 = 1)) j) := fun H8 s8 => by
      obtain ⟨bs, hb, hB⟩ := mk6.bank
      have s := s3.trans s8
      exact ⟨mk6.same.trans s, ⟨bs, s _ _ hb, hB.mono s.tps⟩, mk6.shs.mono s, mk6.fps, mk6.fas, mk6.nd, mk6.len, mk6.gp, mk6.hr, mk6.small, mk6.nb⟩
    refine ⟨_, rfl, _, _, rfl, rfl, ⟨by decide, by decide⟩, _, _, rfl, rfl, (by decide : (0 : Int) < 2), rfl, _, rfl, ?_⟩
    refine ite2 (fun z => ?_) (fun z => ?_)
    · have z' : c / 5 % 2 = 1 := by have := of_decide_eq_true z; injection this
      refine ⟨_, rfl, _, _, rfl, rfl, (by decide : (0 : Int) < 2), rfl, _, rfl, ?_⟩
      refine ite2 (fun y => ?_) (fun y => ?_)
      · have y' : (j : Int) % 2 = 1 := by have := of_decide_eq_true y; injection this
        refine ⟨_, rfl, by show 2 ≤ sizeLine; decide, fun Z' hZ' => ⟨_, rfl, by show 2 ≤ sizeLine; decide, fun Y' hY' => ⟨by show 2 ≤ sizeLine; decide, fun pr' hpr' => ?_⟩⟩⟩
        have e1 := same_new (o := .tup [.str "wet", .int w]) hZ'
        have e2 := same_new (o := .tup [.str "dry", .int d]) hY'
        have e3 := same_new (o := .lst [.ref Z', .ref Y']) hpr'
        have er : Fr.blkRow d w (decide (c / 5 % 2 = 1)) j = [(false, w), (true, d)] := by unfold Fr.blkRow; rw [if_pos ⟨by simp [z'], by (first | lia | omega)⟩]
        exact end_ok (K := K) n1 (mk7 _ ((e1.trans e2).trans e3)) (pr := pr') (xs := [.ref Z', .ref Y']) (rows := Fr.blkRow d w (decide (c / 5 % 2 = 1)) j) upd_same
          (by rw [er]; exact .cons ⟨Z', rfl, e3 _ _ (e2 _ _ upd_same)⟩ (.cons ⟨Y', rfl, e3 _ _ upd_same⟩ .nil)) rn (Fr.blkRow_tot _ _ _ _) rl hdw lb (fun pb3 z11 z12 H' m => nx' pr' z11 z12 pb3 H' m)
      · have y' : ¬ (j : Int) % 2 = 1 := fun q => y (decide_eq_true (congrArg V.int q))
        have er : Fr.blkRow d w (decide (c / 5 % 2 = 1)) j = [(true, d), (false, w)] := by unfold Fr.blkRow; rw [if_neg (fun q => y' (by have := q.2; (first | lia | omega)))]
        exact end_ok (K := K) n1 (mk7 _ (Same.refl _)) (rows := Fr.blkRow d w (decide (c / 5 % 2 = 1)) j) hpr3 (by rw [er]; exact row3) rn (Fr.blkRow_tot _ _ _ _) rl hdw lb (fun pb3 z11 z12 H' m => nx' pr z11 z12 pb3 H' m)
    · have z' : ¬ c / 5 % 2 = 1 := fun q => z (decide_eq_true (congrArg V.int q))
      have er : Fr.blkRow d w (decide (c / 5 % 2 = 1)) j = [(true, d), (false, w)] := by unfold Fr.blkRow; rw [if_neg (fun q => z' (of_decide_eq_true q.1))]
      refine iteF ?_
      exact end_ok (K := K) n1 (mk7 _ (Same.refl _)) (rows := Fr.blkRow d w (decide (c / 5 % 2 = 1)) j) hpr3 (by rw [er]; exact row3) rn (Fr.blkRow_tot _ _ _ _) rl hdw lb (fun pb3 z11 z12 H' m => nx' pr z11 z12 pb3 H' m)
  · rintro σ H6 ⟨pb2, z9, z10, z11, z12, rfl, mk6⟩
    exact k pb2 z9 z10 z11 z12 H6 mk6
section
variable {P : Program} {w : World} {K : PySem.W.Frag} {mg : Str → Option Value} {base : Heap}
seal L2.PSs L2.PS L2.PE L2.PA L2.PT L2.PW
noncomputable def spDealt (K : PySem.W.Frag) : Sp := fun vs H Q _ => ∃ (a : Addr) (ns : List Int) (n : Nat), vs = [.ref a, .int n] ∧ SqL K H a (ns.map V.int) ∧ ns.length ≤ 63 ∧ 1 ≤ n ∧ n ≤ 5 ∧
  ∀ t pb ps bs as rs S H', Same H H' → H' t = some (.tup [.ref pb, .ref ps]) → H' pb = some (.lst bs) → RowsAt H' bs rs → SsAt H' ps as S → Good n rs S → Q (.ref t) H'
theorem scDe : FnScope ["_law_script", "_law_heirs", "_law_bank", "_law_shares", "_law_at", "_law_k", "_law_cell", "_law_dry", "_law_wet", "_law_j", "_law_rows_here", "_law_ground", "_law_long_here"] ["_law_script", "_law_heirs"] (defScope sDealt) := ⟨rfl, rfl, rfl, by decide +kernel, rfl, by decide +kernel, by decide +kernel⟩
theorem ok_dealt {f f1 f2 f3 f4 : Addr} {fd fd1 fd2 fd3 fd4 : FuncData} (F : FunG K "_law_dealt" "_law_dealt" sDealt f fd .none) (T : Pl mg) (D1 : Df K mg "_law_cell_at" sCell ["_law_script", "_law_k"] f1 fd1) (D2 : Df K mg "_law_long" sLong ["_law_cell"] f2 fd2)
    (D3 : Df K mg "_law_put" sPut ["_law_rows_here", "_law_ground", "_law_long_here"] f3 fd3) (D4 : Df K mg "_law_joined" sJoin ["_law_share"] f4 fd4) : FnOk P w K mg base CX0 2 f fd ["_law_script", "_law_heirs"] (spDealt K) := by
  have G1 : FnOk P w K mg base CX0 1 f1 fd1 ["_law_script", "_law_k"] (spCell K) := ok_cell D1.fn T
  have G2 : FnOk P w K mg base CX0 1 f2 fd2 ["_law_cell"] spLong := ok_long D2.fn T
  have G3 : FnOk P w K mg base CX0 1 f3 fd3 ["_law_rows_here", "_law_ground", "_law_long_here"] spPut := ok_put D3.fn T
  have G4 : FnOk P w K mg base CX0 1 f4 fd4 ["_law_share"] spJoin := ok_join D4.fn T
  refine F.ok scDe (fun vs H Q E h => ?_) (fun cdv A outer s H vs Q E hr h => ?_)
  · obtain ⟨_, _, _, rfl, _⟩ := h; rfl
  · obtain ⟨a, ns, n, rfl, hS, hl, n1, n5, k⟩ := h
    refine ⟨_, pss_cons (ps_set (i := 2) scDe.nd rfl (Or.inl rfl) (pe_lst pa_nil))
      (pss_cons (ps_comp (i := 3) (Nc := ["_law_k"]) (fv := [none]) ⟨rfl, by decide +kernel, rfl, by decide +kernel, trivial, by decide +kernel, rfl, trivial⟩ scDe.nd rfl (Or.inl rfl) rfl (pi_range1 rfl T.range (pa_cons (pv 1) pa_nil))
          (fun _ _ _ _ _ => pg_name (i := 0) (show (["_law_k"] : List Str).Nodup by decide +kernel) rfl (Or.inl rfl)) (fun _ _ _ _ _ => pif_nil) (fun _ _ _ _ _ => pe_lst pa_nil))
      (pss_cons (ps_set (i := 4) scDe.nd rfl (Or.inl rfl) pe_int)
      (pss_cons (ps_for PassesOwn.never rfl (pi_range1 rfl T.range (pa_cons (pe_callB (call_min2 rfl) rfl T.min PyProof.Rows.boot_min (pa_cons (pe_op op_fdiv pe_int (pv 1)) (pa_cons (pe_op op_fdiv (pe_op op_sub (pe_callB call_len_seq rfl T.len PySem.boot_len (pa_cons (pv 0) pa_nil)) pe_int) pe_int) pa_nil))) pa_nil)) (pg_name (i := 5) scDe.nd rfl (Or.inl rfl))
        (pss_cons (ps_set (i := 6) scDe.nd rfl (Or.inl rfl) (pe_call G1 hr rfl D1.gl D1.fn.kp D1.bd .nil pass0 (pa_cons (pv 0) (pa_cons (pe_op op_add pe_int (pe_op op_mul pe_int (pv 5))) pa_nil))))
        (pss_cons (ps_set (i := 7) scDe.nd rfl (Or.inl rfl) (pe_call G2 hr rfl D2.gl D2.fn.kp D2.bd .nil pass0 (pa_cons (pe_op op_fdiv (pv 6) pe_int) pa_nil)))
        (pss_cons (ps_set (i := 8) scDe.nd rfl (Or.inl rfl) (pe_call G2 hr rfl D2.gl D2.fn.kp D2.bd .nil pass0 (pa_cons (pe_call G1 hr rfl D1.gl D1.fn.kp D1.bd .nil pass0 (pa_cons (pv 0) (pa_cons (pe_op op_add pe_int (pe_op op_mul pe_int (pv 5))) pa_nil))) pa_nil)))
        (pss_cons (ps_if (pt_cmpR op_eq (pe_op op_add (pv 7) (pv 8)) pe_int (nomark _)) (pss_one (ps_set (i := 7) scDe.nd rfl (Or.inl rfl) pe_int)) pss_nil)
        (pss_one (ps_for PassesOwn.never rfl (pi_range1 rfl T.range (pa_cons (pv 1) pa_nil)) (pg_name (i := 9) scDe.nd rfl (Or.inl rfl))
          (pss_cons (ps_set (i := 10) scDe.nd rfl (Or.inl rfl) (pe_lst (pa_cons (pe_tup (pa_cons pe_str (pa_cons (pv 7) pa_nil))) (pa_cons (pe_tup (pa_cons pe_str (pa_cons (pv 8) pa_nil))) pa_nil))))
          (pss_cons (ps_if (PW.pt (pw_and (pt_cmpR op_eq (pe_op op_mod (pe_op op_fdiv (pv 6) pe_int) pe_int) pe_int (nomark _)) (pw_and1 (pt_cmpR op_eq (pe_op op_mod (pv 9) pe_int) pe_int (nomark _)))))
              (pss_one (ps_set (i := 10) scDe.nd rfl (Or.inl rfl) (pe_lst (pa_cons (pe_tup (pa_cons pe_str (pa_cons (pv 8) pa_nil))) (pa_cons (pe_tup (pa_cons pe_str (pa_cons (pv 7) pa_nil))) pa_nil))))) pss_nil)
          (pss_cons (ps_for PassesOwn.never rfl (pi_list (pv 10)) (pg_tup rfl (pgs_cons (pg_name (i := 11) scDe.nd rfl (Or.inl rfl)) (pgs_cons (pg_name (i := 12) scDe.nd rfl (Or.inl rfl)) pgs_nil)))
              (pss_one (ps_set (i := 2) scDe.nd rfl (Or.inl rfl) (pe_call G3 hr rfl D3.gl D3.fn.kp D3.bd .nil pass0 (pa_cons (pv 2) (pa_cons (pv 11) (pa_cons (pv 12) pa_nil)))))))
          (pss_cons (ps_expr (pe_bm PySem.F.plainAttrs_list PySem.F.slot_list_append PySem.F.type_list_append mt_append (pe_ix ix_list (pv 3) (pe_op op_mod (pe_op op_add (pv 6) (pv 9)) (pv 1)) (fun _ _ => rfl)) (pa_cons (pe_tup (pa_cons (pv 4) (pa_cons (pe_op op_add (pe_op op_add (pv 4) (pv 7)) (pv 8)) pa_nil))) pa_nil)))
          (pss_one (ps_set (i := 4) scDe.nd rfl (Or.inl rfl) (pe_op op_add (pe_op op_add (pv 4) (pv 7)) (pv 8)))))))))))))))
      (pss_one (ps_ret (pe_tup (pa_cons (pv 2) (pa_cons (pe_comp (Nc := ["_law_share"]) (fv := [none]) ⟨rfl, by decide +kernel, rfl, by decide +kernel, trivial, by decide +kernel, rfl, trivial⟩ rfl (pi_list (pv 3))
          (fun _ _ _ _ _ => pg_name (i := 0) (show (["_law_share"] : List Str).Nodup by decide +kernel) rfl (Or.inl rfl)) (fun _ _ _ _ _ => pif_nil) (fun _ _ _ _ _ => pe_call G4 hr rfl D4.gl D4.fn.kp D4.bd .nil pass0 (pa_cons (pv 0) pa_nil))) pa_nil)))))))), ?_⟩
    -- [] and [[], ..]
    refine ⟨Nat.zero_le _, fun pb hpb => ?_⟩
    have s1 := same_new (o := .lst []) hpb
    have hpb1 : upd H pb (.lst []) pb = some (.lst []) := upd_same
    generalize upd H pb (.lst []) = H1 at s1 hpb1 ⊢
    refine ⟨_, rfl, _, rfl, by (first | lia | omega), by (first | lia | omega), fun ps hps => ?_⟩
    have hpsH : H ps = none := s1.free hps
    refine comp_range (lo := 0) (n := n) (fun i ys H2 => Same H1 H2 ∧ H2 ps = some (.lst ys) ∧ ∃ as : List Addr, ys = as.map V.ref ∧ as.length = i ∧ as.Nodup ∧ ∀ c ∈ as, H c = none ∧ c ≠ ps ∧ c ≠ pb ∧ H2 c = some (.lst [])) ⟨same_new hps, upd_same, [], rfl, rfl, List.nodup_nil, by simp⟩ (fun i ys H2 h => h.2.1) ?_ ?_
    · rintro i ys H2 hi ⟨sm, hy, as, rfl, la, nd, hc⟩
      refine ⟨(Wk.refl _).set rfl, yes ?_⟩
      refine ⟨Nat.zero_le _, fun l hl => ?_⟩
      have g := same_new (o := .lst []) hl
      have nl : ps ≠ l := ne_of_none hy hl
      refine ⟨g _ _ hy, ?_, nx hi ⟨(sm.trans g).write hps, upd_same, as ++ [l], by simp, by simp [la], ?_, fun c hc' => ?_⟩⟩
      · refine Nat.lt_of_le_of_lt (m := 10) ?_ (by decide)
        rw [List.length_map]; (first | lia | omega)
      · rw [List.nodup_append]
        refine ⟨nd, by simp, fun x hx y hy' => ?_⟩
        rw [List.mem_singleton.mp hy']
        exact fun e => by have := (hc x hx).2.2.2; rw [e, hl] at this; cases this
      · rcases List.mem_append.mp hc' with q | q
        · obtain ⟨q1, q2, q4, q3⟩ := hc c q
          exact ⟨q1, q2, q4, by rw [upd_ne q2]; exact g _ _ q3⟩
        · rw [List.mem_singleton.mp q]
          exact ⟨(s1.trans sm).free hl, Ne.symm nl, Ne.symm (ne_of_none (sm _ _ hpb1) hl), by rw [upd_ne (Ne.symm nl), upd_same]⟩
    rintro ys H2 ⟨sm2, hy2, as, rfl, la, nd, hc⟩
    have s2 := s1.trans sm2
    -- the blocks
    have v0 : 0 ≤ 24 / (n : Int) := Int.ediv_nonneg (by decide) (by (first | lia | omega))
    have v1 : 24 / (n : Int) * n ≤ 24 := Int.ediv_mul_le _ (by (first | lia | omega))
    have v2 : 24 / (n : Int) ≤ 24 := by have := Int.ediv_le_self (a := 24) (n : Int) (by decide); exact this
    have hl' : ((ns.map V.int).length : Int) ≤ 63 := by rw [List.length_map]; (first | lia | omega)
    refine ⟨_, rfl, _, _, rfl, rfl, ⟨by (first | lia | omega), by (first | lia | omega)⟩, _, rfl, a, _, rfl, .inl (s2.seq hS), _, _, rfl, rfl, _, _, rfl, rfl, ⟨by decide, by decide⟩, _, _, rfl, _, rfl, by split <;> (first | lia | omega), by split <;> (first | lia | omega), ?_⟩
    have hM : (if ((ns.map V.int).length - 4 : Int) / 2 < 24 / (n : Int) then ((ns.map V.int).length - 4 : Int) / 2 else 24 / (n : Int)).toNat * n ≤ 24 := by
      have hv : (if ((ns.map V.int).length - 4 : Int) / 2 < 24 / (n : Int) then ((ns.map V.int).length - 4 : Int) / 2 else 24 / (n : Int)) ≤ 24 / (n : Int) := by split <;> (first | lia | omega)
      generalize (if ((ns.map V.int).length - 4 : Int) / 2 < 24 / (n : Int) then ((ns.map V.int).length - 4 : Int) / 2 else 24 / (n : Int)) = v at hv
      have e1 : (v.toNat : Int) ≤ 24 / (n : Int) := by (first | lia | omega)
      have e2 : (v.toNat : Int) * n ≤ 24 / (n : Int) * n := Int.mul_le_mul_of_nonneg_right e1 (by (first | lia | omega))
      have e3 : ((v.toNat * n : Nat) : Int) ≤ 24 := by rw [Int.natCast_mul]; (first | lia | omega)
      (first | lia | omega)
    generalize (if ((ns.map V.int).length - 4 : Int) / 2 < 24 / (n : Int) then ((ns.map V.int).length - 4 : Int) / 2 else 24 / (n : Int)).toNat = M at hM
    have empt : ShsAt H2 as (Fr.sharesOf 0 n (Fr.pcsOf 0 [])) := by
      have key : ∀ (m : Nat) (h : Int) (cs : List Addr), cs.length = m → (∀ c ∈ cs, H2 c = some (.lst [])) → ShsAt H2 cs (Fr.sharesOf h m []) := by
        intro m
        induction m with
        | zero => intro h cs hc _; cases cs with
          | nil => exact .nil
          | cons _ _ => simp at hc
        | succ m ih =>
          intro h cs hc hz
          cases cs with
          | nil => simp at hc
          | cons c cs => exact .cons ⟨[], hz c (by simp), .nil⟩ (ih (h + 1) cs (by simpa using hc) fun x hx => hz x (by simp [hx]))
      exact key n 0 as la fun c hc' => (hc c hc').2.2.2
    refine for_range (lo := 0) (n := M) (fun kk σ H3 => ∃ (pb' : Addr) (R : List Fr.Rp) (z5 z6 z7 z8 z9 z10 z11 z12 : Option V), σ = [some (.ref a), some (.int n), some (.ref pb'), some (.ref ps), some (.int (Bk.tot (Fr.rawB R))), z5, z6, z7, z8, z9, z10, z11, z12] ∧
      Mk H H3 n pb' ps as R ∧ R.length = kk * n ∧ ∀ g h, 0 ≤ h → h < (n : Int) → Fr.hs g h R = Fr.hs g 0 R)
      ⟨pb, [], none, none, none, none, none, none, none, none, rfl, ⟨s2, ⟨[], sm2 _ _ hpb1, .nil⟩, ⟨hy2, empt⟩, hpsH, fun c hc' => ⟨(hc c hc').1, (hc c hc').2.1⟩, nd, la, by intro r hr; simp at hr, by simp, rfl, fun q => (hc pb q).2.2.1 rfl⟩, by simp, by simp [Fr.hs]⟩ ?_ ?_
    · rintro kk σ H3 hkk ⟨pb1, R, z5, z6, z7, z8, z9, z10, z11, z12, rfl, mk, hRl, hsum⟩
      have hS3 := mk.same.seq hS
      have hkM : (kk + 1) * n ≤ 24 := Nat.le_trans (Nat.mul_le_mul_right n hkk) hM
      have hk24 : kk * n + n ≤ 24 := by rw [Nat.succ_mul] at hkM; exact hkM
      have hkk24 : kk ≤ 24 := by
        have : kk * 1 ≤ kk * n := Nat.mul_le_mul_left kk n1
        (first | lia | omega)
      refine ⟨_, rfl, _, rfl, _, _, rfl, rfl, .inl ⟨by decide, by decide⟩, _, _, rfl, rfl, a, ns, _, rfl, hS3, by (first | lia | omega), ?_⟩
      generalize cellN ns (5 + 2 * (0 + (kk : Int))) = c
      refine ⟨_, rfl, _, _, rfl, rfl, ⟨by decide, by decide⟩, _, rfl, fun dry H4 s4 hdry => ?_⟩
      refine ⟨_, rfl, _, rfl, _, _, rfl, rfl, .inl ⟨by decide, by decide⟩, _, _, rfl, rfl, a, ns, _, rfl, s4.seq hS3, by (first | lia | omega), _, rfl, fun w H5 s5 hw => ?_⟩
      have s45 := s4.trans s5
      refine ⟨_, rfl, _, rfl, _, _, rfl, rfl, rfl, _, rfl, ?_⟩
      have mk5 : Mk H H5 n pb1 ps as R := by
        obtain ⟨bs, hb, hB⟩ := mk.bank
        exact ⟨mk.same.trans s45, ⟨bs, s45 _ _ hb, hB.mono s45.tps⟩, mk.shs.mono s45, mk.fps, mk.fas, mk.nd, mk.len, mk.gp, mk.hr, mk.small, mk.nb⟩
      have go : ∀ d : Int, 0 ≤ d → 0 < d + w → ∀ (D : Ends), (∀ pb2 z9 z10 z11 z12 H', Mk H H' n pb2 ps as (R ++ Fr.blk n c d w (decide (c / 5 % 2 = 1)) n) → (R ++ Fr.blk n c d w (decide (c / 5 % 2 = 1)) n).length = (kk + 1) * n → (∀ g h, 0 ≤ h → h < (n : Int) → Fr.hs g h (R ++ Fr.blk n c d w (decide (c / 5 % 2 = 1)) n) = Fr.hs g 0 (R ++ Fr.blk n c d w (decide (c / 5 % 2 = 1)) n)) →
          D.nx [some (.ref a), some (.int n), some (.ref pb2), some (.ref ps), some (.int (Bk.tot (Fr.rawB (R ++ Fr.blk n c d w (decide (c / 5 % 2 = 1)) n)))), some (.int (0 + (kk : Int))), some (.int c), some (.int d), some (.int w), z9, z10, z11, z12] H') →
          tsInner K D [some (.ref a), some (.int n), some (.ref pb1), some (.ref ps), some (.int (Bk.tot (Fr.rawB R))), some (.int (0 + (kk : Int))), some (.int c), some (.int d), some (.int w), z9, z10, z11, z12] H5 := fun d hd hdw D kD => by
        refine inner_ok n1 n5 mk5 hd hw hdw (by (first | lia | omega)) fun pb2 z9 z10 z11 z12 H' m => kD pb2 z9 z10 z11 z12 H' m ?_ fun g h h0 h1 => ?_
        · rw [List.length_append, hRl, Nat.succ_mul]; simp [Fr.blk]
        · rw [Fr.hs_append, Fr.hs_append, hsum g h h0 h1, Fr.hs_blk g c d w _ h0 h1, Fr.hs_blk g c d w _ (Int.le_refl _) (by (first | lia | omega))]
      refine ite2 (fun z => ?_) (fun z => ?_)
      · have z' : dry + w = 0 := by have := of_decide_eq_true z; injection this
        exact go 1 (by decide) (by (first | lia | omega)) _ fun pb2 z9 z10 z11 z12 H' m e1 e2 => ⟨pb2, _, _, _, _, _, _, _, _, _, rfl, m, e1, e2⟩
      · have z' : dry + w ≠ 0 := fun q => z (decide_eq_true (congrArg V.int q))
        exact go dry hdry (by (first | lia | omega)) _ fun pb2 z9 z10 z11 z12 H' m e1 e2 => ⟨pb2, _, _, _, _, _, _, _, _, _, rfl, m, e1, e2⟩
    · rintro σ H3 ⟨pb1, R, z5, z6, z7, z8, z9, z10, z11, z12, rfl, mk, hRl, hsum⟩
      have hR24 : R.length ≤ 24 := by rw [hRl]; exact hM
      obtain ⟨bs, hb, hB⟩ := mk.bank
      obtain ⟨hps3, hSh⟩ := mk.shs
      refine ⟨_, rfl, _, rfl, ps, rfl, ⟨_, SqL.of hps3⟩, fun pq hpq => ?_⟩
      have hlS := Paired.length hSh
      refine comp_list (K := K) (a := ps) (xs := as.map V.ref) (fun i ys H4 => Same H3 H4 ∧ H4 pq = some (.lst ys) ∧ ∃ bs : List Addr, ys = bs.map V.ref ∧ ShsAt H4 bs (((Fr.sharesOf 0 n (Fr.pcsOf 0 R)).take i).map fun s => Fr.joinS (srt2 s)) ∧ pq ∉ bs) ⟨same_new hpq, upd_same, [], rfl, .nil, by simp⟩ (fun i ys H4 h => ⟨h.1.seq (SqL.of hps3), h.2.1⟩) ?_ ?_
      · rintro i x ys H4 hi hx ⟨sm, hy, bs', rfl, hbs, nq⟩
        rw [List.getElem?_map, Option.map_eq_some_iff] at hx
        obtain ⟨e, he, rfl⟩ := hx
        obtain ⟨sh, hsh, hsh2⟩ := paired_get hSh he
        have lsh : sh.length < 64 := by
          have hi' : i < n := by rw [List.length_map, mk.len] at hi; exact hi
          rw [Fr.sharesOf_get n 0 _ i hi'] at hsh
          have e' := Option.some.inj hsh
          rw [← e']
          unfold Fr.fil
          rw [List.length_map]
          have h1 := List.length_filter_le (fun t : Fr.Tr => decide (t.2.2 = 0 + (i : Int))) (Fr.pcsOf 0 R)
          rw [Fr.pcsOf_length] at h1
          (first | lia | omega)
        have lb := Paired.length hbs
        refine ⟨(Wk.refl _).set rfl, yes ?_⟩
        refine ⟨_, rfl, e, sh, rfl, hsh2.mono sm, lsh, fun q H5 s5 hq hq5 => ?_⟩
        have npq : pq ≠ q := ne_of_none hy hq
        refine ⟨s5 _ _ hy, ?_, nx hi ⟨(sm.trans s5).write hpq, upd_same, bs' ++ [q], by simp, ?_, by simp [nq, npq]⟩⟩
        · refine Nat.lt_of_le_of_lt (m := 10) ?_ (by decide)
          rw [List.length_map, lb]
          have := mk.len
          rw [List.length_map] at hi
          simp only [List.length_map, List.length_take]; (first | lia | omega)
        · rw [Q7.take_snoc hsh, List.map_append]
          have hbs5 := ShsAt.write (o := .lst ((bs'.map V.ref) ++ [V.ref q])) (s5 _ _ hy) (hbs.mono s5) fun c hc' z => nq (z ▸ hc')
          refine Paired.snoc hbs5 (ShAt.write hq5 (Ne.symm npq) (s5 _ _ hy))
      · rintro ys H4 ⟨sm, hy, bs', rfl, hbs, nq⟩
        have et : (Fr.sharesOf 0 n (Fr.pcsOf 0 R)).take (as.map V.ref).length = Fr.sharesOf 0 n (Fr.pcsOf 0 R) := List.take_of_length_le (by rw [List.length_map, mk.len, Fr.sharesOf_length]; exact Nat.le_refl _)
        rw [et] at hbs
        refine ⟨by show 2 ≤ sizeLine; decide, fun tt htt => ?_⟩
        have g := same_new (o := .tup [.ref pb1, .ref pq]) htt
        have s4 := sm.trans g
        exact k tt pb1 pq bs bs' _ _ _ (mk.same.trans s4) upd_same (s4 _ _ hb) (hB.mono s4.tps) ⟨g _ _ hy, hbs.mono g⟩ ⟨R, mk.gp, mk.hr, rfl, rfl, hsum, hR24, mk.small⟩
end
end K7

set_option linter.all false
namespace K7
open L2
theorem cover_pw {w : Int} : ∀ {P : List Fr.Tr} {r : Int}, Fr.cover w r P = true → P.Pairwise fun a b => a.1 < b.1
  | [], _, _ => .nil
  | p :: t, r, h => by
    simp only [Fr.cover] at h
    split at h
    · cases h
    · rename_i hn
      have lo := (Fr.cover_low h).1
      exact List.pairwise_cons.mpr ⟨fun q hq => by have := (lo q hq).1; (first | lia | omega), cover_pw h⟩
theorem cover_starts {w : Int} : ∀ {P : List Fr.Tr} {r : Int}, Fr.cover w r P = true → ∀ q ∈ P, q.1 = r ∨ q.1 ∈ P.map fun t => t.2.1
  | p :: t, r, h, q, hq => by
    simp only [Fr.cover] at h
    split at h
    · cases h
    · rename_i hn
      rcases List.mem_cons.mp hq with e | hq
      · left; rw [e]; (first | lia | omega)
      · right
        rcases cover_starts h q hq with e | e
        · simp [e]
        · simp only [List.map_cons, List.mem_cons]; exact .inr e
theorem alike_const (f : Nat → Int) (c : Int) : ∀ n, (∀ k, k < n → f k = c) → Fr.alike ((List.range n).map f) = true
  | 0, _ => rfl
  | n + 1, h => by
    rw [List.range_succ_eq_map, List.map_cons, List.map_map]
    show (((List.range n).map (f ∘ Nat.succ)).all fun x => x == f 0) = true
    rw [List.all_eq_true]
    intro x hx
    obtain ⟨k, hk, rfl⟩ := List.mem_map.mp hx
    have := List.mem_range.mp hk
    show (f (k + 1) == f 0) = true
    rw [h (k + 1) (by (first | lia | omega)), h 0 (by (first | lia | omega))]; simp
structure GoodF (n : Nat) (rs : List Bk.Rw) (S : List (List Pc)) : Prop where
  fair : Q7.fairB rs S = true
  len : S.length = n
  tot : Q7.totP S ≤ 24
  pos : ∀ r ∈ rs, 0 < r.2
  small : rs.length ≤ 48
  pcs : ∀ s ∈ S, ∀ p ∈ s, p.1 < p.2
theorem Good.facts {n : Nat} {rs : List Bk.Rw} {S : List (List Pc)} (G : Good n rs S) : GoodF n rs S := by
  obtain ⟨R, gp, hr, rfl, rfl, hs, h24, h48⟩ := G
  obtain ⟨J, al⟩ := Fr.al_raw gp
  have nn := gp.rows
  obtain ⟨alt, rp⟩ := Bk.tidy_good (Fr.rawB R) nn
  have cvQ := al.cover.1
  have cvJ := al.cover.2
  have rise : ∀ k, srt2 (Fr.fil k (Fr.pcsOf 0 R)) = Fr.fil k (Fr.pcsOf 0 R) := fun k => by
    apply srt2_id
    unfold Fr.fil
    rw [List.pairwise_map]
    exact List.Pairwise.filter _ (cover_pw cvQ)
  have eS : (Fr.sharesOf 0 n (Fr.pcsOf 0 R)).map (fun s => Fr.joinS (srt2 s)) = Fr.sharesOf 0 n J := by
    rw [Fr.sharesOf_joined al]
    apply List.map_congr_left
    intro s hs'
    obtain ⟨k, rfl⟩ := Fr.sharesOf_mem hs'
    rw [rise]
  rw [eS]
  have hJ : ∀ x ∈ J, 0 ≤ x.2.2 ∧ x.2.2 < 0 + (n : Int) := fun x hx => by
    obtain ⟨y, hy, e⟩ := al.small.2 x hx
    obtain ⟨r, hr', e'⟩ := Fr.pcsOf_heir hy
    have := hr r hr'
    (first | lia | omega)
  have pm := Fr.trips_perm n 0 J hJ
  have srt : Q7.srt3 (Fr.trips 0 (Fr.sharesOf 0 n J)) = J := Fr.sorted_uniq (f := fun p : Fr.Tr => p.1) ((Q7.srt3_perm _).trans pm)
    ((Srt.out_fst (enc := Q7.tr3) (m := 3) (fun _ => rfl) (f := fun p => p.1) (fun p => ⟨[p.2.1, p.2.2], rfl⟩) (0, 0, 0) _).imp fun z => by (first | lia | omega)) al.up
  have tt : Bk.tot (Bk.tidy (Fr.rawB R)) = Bk.tot (Fr.rawB R) := by rw [Bk.tot_sm, Bk.tot_sm, Bk.sm_tidy true _ nn, Bk.sm_tidy false _ nn]
  have lJ : J.length ≤ 24 := by have := al.small.1; rw [Fr.pcsOf_length] at this; (first | lia | omega)
  have nt : Bk.ntot (J.map Fr.ow) = Bk.tot (Fr.rawB R) := by have := Fr.cover_ntot cvJ; (first | lia | omega)
  have jp : ∀ r ∈ J.map Fr.ow, 0 < r.2 := fun r hr' => by
    obtain ⟨t, ht, rfl⟩ := List.mem_map.mp hr'
    have := (al.inside.1 t ht).2.1
    show 0 < t.2.1 - t.1
    (first | lia | omega)
  have ad : ∀ (g : Bool) (h : Int), 0 ≤ h → h < (n : Int) → Fr.adds g h (Bk.sbs (Bk.tidy (Fr.rawB R)) (J.map Fr.ow)) = Fr.hs g 0 R := fun g h h0 h1 => by
    rw [Fr.adds_sbs g h _ _ _ 0 (Nat.le_refl _) rp jp (by rw [tt, nt])]
    have e : (fun p => Bk.cum g p 0 (Bk.tidy (Fr.rawB R))) = fun p => Bk.cum g p 0 (Fr.rawB R) := by
      funext p; exact Bk.cum_tidy g p _ nn
    rw [e, al.own, Fr.own_raw g h R 0 gp, hs g h h0 h1]
  refine ⟨?_, Fr.sharesOf_length _ _ _, ?_, rp, ?_, ?_⟩
  · unfold Q7.fairB Q7.runsF Q7.ownersOf
    rw [srt, al.all_apart, tt, cvJ, Fr.sharesOf_length]
    have a1 : ∀ g, Fr.alike (Fr.sumL g n (Bk.sbs (Bk.tidy (Fr.rawB R)) (J.map Fr.ow))) = true := fun g =>
      alike_const _ (Fr.hs g 0 R) n fun k hk => ad g k (by (first | lia | omega)) (by (first | lia | omega))
    rw [a1 true, a1 false]; rfl
  · rw [← Q7.trips_length _ 0, pm.length_eq]; exact lJ
  · have := Bk.tidy_length (Fr.rawB R)
    (first | lia | omega)
  · intro s hs' p hp
    obtain ⟨k, rfl⟩ := Fr.sharesOf_mem hs'
    unfold Fr.fil at hp
    obtain ⟨t, ht, rfl⟩ := List.mem_map.mp hp
    exact (al.inside.1 t (List.mem_filter.mp ht).1).2.1
theorem places_few {S : List (List Pc)} {P : List Fr.Tr} {w : Int} (hp : P.Perm (Fr.trips 0 S)) (hc : Fr.cover w 0 P = true) {l : List Int} (hl : ∀ x ∈ l, x ∈ Q7.plc S) : (l.foldl Fr.dd []).length ≤ Q7.totP S + 1 := by
  obtain ⟨h1, h2⟩ := Fr.fold_dd l [] List.nodup_nil
  have := Fr.len_le_of_sub (b := 0 :: P.map fun t => t.2.1) h1 fun x hx => by
    have hx' : x ∈ Q7.plc S := hl x (((h2 x).mp hx).resolve_left (by simp))
    unfold Q7.plc at hx'
    obtain ⟨s, hs, hx''⟩ := List.mem_flatMap.mp hx'
    rcases List.mem_append.mp hx'' with q | q
    · obtain ⟨p, hp', rfl⟩ := List.mem_map.mp q
      obtain ⟨k, hk⟩ := Fr.mem_trips (h := 0) hs hp'
      rcases cover_starts hc _ (hp.mem_iff.mpr hk) with e | e
      · have e' : p.1 = 0 := e
        simp [e']
      · exact List.mem_cons_of_mem _ e
    · obtain ⟨p, hp', rfl⟩ := List.mem_map.mp q
      obtain ⟨k, hk⟩ := Fr.mem_trips (h := 0) hs hp'
      exact List.mem_cons_of_mem _ (List.mem_map.mpr ⟨_, hp.mem_iff.mpr hk, rfl⟩)
  rw [List.length_cons, List.length_map, hp.length_eq, Q7.trips_length] at this
  exact this
theorem inV_two (m L : Int) : inV (.int m) [.int 0, .int L] = decide (m = 0 ∨ m = L) := by
  unfold inV
  simp only [List.any_cons, List.any_nil, eqV, Bool.or_false]
  rw [Bool.eq_iff_iff, decide_eq_true_eq, Bool.or_eq_true, beq_iff_eq, beq_iff_eq]
  exact ⟨fun h => h.imp (fun e => e.symm) fun e => e.symm, fun h => h.imp (fun e => e.symm) fun e => e.symm⟩
theorem cuts_same {S : List (List Pc)} {L : Int} {l ms ks : List Int} (hl : ∀ x, x ∈ l ↔ x ∈ Q7.plc S) (h1 : ms.Perm ((Q7.plc S).foldl Fr.dd [])) (h2 : ms.Pairwise (· ≤ ·)) (h3 : ks.Perm ((l.foldl Fr.dd []).filter fun m => decide (m ≠ 0) && decide (m ≠ L))) (h4 : ks.Pairwise (· ≤ ·)) : Q7.cutF L ms = ks := by
  obtain ⟨n1, m1⟩ := Fr.fold_dd (Q7.plc S) [] List.nodup_nil
  obtain ⟨n2, m2⟩ := Fr.fold_dd l [] List.nodup_nil
  refine Fr.sorted_same (h2.sublist List.filter_sublist) h4 ((h1.nodup_iff.mpr n1).sublist List.filter_sublist) (h3.nodup_iff.mpr (n2.sublist List.filter_sublist)) fun x => ?_
  rw [h3.mem_iff]
  unfold Q7.cutF
  rw [List.mem_filter, List.mem_filter, h1.mem_iff, m1, m2, hl]
  simp [inV_two]
end K7

set_option Elab.async false
set_option linter.all false
set_option maxRecDepth 100000
set_option maxHeartbeats 4000000
namespace K7
open PySem L2
open Q7 (T3sAt T3At take_snoc totP srt3 tr3 trips_length trips_append totP_take t3_append t3_tups)
noncomputable abbrev sRows : Stmt := Q7.top 26
noncomputable abbrev sDO : Stmt := Q7.top 28
noncomputable def doB (rs : List Bk.Rw) (S : List (List Pc)) : Bool := S.all (Fr.okS (-1)) && Fr.chain (Bk.tot rs) 0 (srt3 (Fr.trips 0 S))
section
variable {P : Program} {w : World} {K : PySem.W.Frag} {mg : Str → Option Value} {base : Heap}
seal L2.PSs L2.PS L2.PE L2.PA L2.PT L2.PW
noncomputable def spRows : Sp := fun vs H Q _ => ∃ a as S, vs = [.ref a] ∧ SsAt H a as S ∧ totP S < 64 ∧ S.length ≤ 300 ∧ (S.all (Fr.okS (-1)) = false → ∀ H', Same H H' → Q .non H') ∧
  (S.all (Fr.okS (-1)) = true → ∀ p ys H', Same H H' → H p = none → H' p = some (.lst ys) → T3sAt H' ys (srt3 (Fr.trips 0 S)) → Q (.ref p) H')
theorem scRw : FnScope ["_law_shares", "_law_rows_here", "_law_heir", "_law_behind", "_law_start", "_law_end"] ["_law_shares"] (defScope sRows) := ⟨rfl, rfl, rfl, by decide +kernel, rfl, by decide +kernel, by decide +kernel⟩
theorem ok_rows {f : Addr} {fd : FuncData} (F : FunG K "_law_rows" "_law_rows" sRows f fd .none) (T : Pl mg) : FnOk P w K mg base CX0 1 f fd ["_law_shares"] spRows := by
  refine F.ok scRw (fun vs H Q E h => ?_) (fun cdv A outer s H vs Q E hr h => ?_)
  · obtain ⟨_, _, _, rfl, _⟩ := h; rfl
  · obtain ⟨a, as, S, rfl, hSS, h64, hn, kN, kY⟩ := h
    obtain ⟨ha, hSh⟩ := id hSS
    refine ⟨_, pss_cons (ps_set (i := 1) scRw.nd rfl (Or.inl rfl) (pe_lst pa_nil))
      (pss_cons (ps_for PassesOwn.never rfl (pi_range1 rfl T.range (pa_cons (pe_callB call_len_seq rfl T.len PySem.boot_len (pa_cons (pv 0) pa_nil)) pa_nil)) (pg_name (i := 2) scRw.nd rfl (Or.inl rfl))
        (pss_cons (ps_set (i := 3) scRw.nd rfl (Or.inl rfl) (pe_un un_neg pe_int))
        (pss_one (ps_for PassesOwn.never rfl (pi_list (pe_ix ix_list (pv 0) (pv 2) (fun _ _ => rfl))) (pg_tup rfl (pgs_cons (pg_name (i := 4) scRw.nd rfl (Or.inl rfl)) (pgs_cons (pg_name (i := 5) scRw.nd rfl (Or.inl rfl)) pgs_nil)))
          (pss_cons (ps_if (PW.pt (pw_or (pt_cmpR op_le (pv 4) (pv 3) (nomark _)) (pw_or1 (pt_cmpR op_le (pv 5) (pv 4) (nomark _))))) (pss_one (ps_ret pe_non)) pss_nil)
          (pss_cons (ps_set (i := 3) scRw.nd rfl (Or.inl rfl) (pv 5))
          (pss_one (ps_expr (pe_bm PySem.F.plainAttrs_list PySem.F.slot_list_append PySem.F.type_list_append mt_append (pv 1) (pa_cons (pe_tup (pa_cons (pv 4) (pa_cons (pv 5) (pa_cons (pv 2) pa_nil)))) pa_nil))))))))))
      (pss_one (ps_ret (pe_callB call_sortedT rfl T.sorted PyProof.Rows.boot_sorted (pa_cons (pv 1) pa_nil))))), ?_⟩
    have hlS := Paired.length hSh
    refine ⟨Nat.zero_le _, fun p hp => ?_⟩
    have s0 := same_new (o := .lst []) hp
    have hp0 : upd H p (.lst []) p = some (.lst []) := upd_same
    generalize upd H p (.lst []) = H0 at s0 hp0 ⊢
    refine ⟨_, rfl, a, _, rfl, .inl (SqL.of (s0 _ _ ha)), _, rfl, by (first | lia | omega), by rw [List.length_map]; (first | lia | omega), ?_⟩
    have eN : ((as.map V.ref).length : Int).toNat = S.length := by rw [Int.toNat_natCast, List.length_map]; exact hlS
    rw [eN]
    refine for_range (lo := 0) (n := S.length) (fun i σ H2 => ∃ z2 z3 z4 z5 ys, σ = [some (.ref a), some (.ref p), z2, z3, z4, z5] ∧ Same H H2 ∧ H2 p = some (.lst ys) ∧ T3sAt H2 ys (Fr.trips 0 (S.take i)) ∧ (S.take i).all (Fr.okS (-1)) = true) ⟨none, none, none, none, [], rfl, s0, hp0, .nil, rfl⟩ ?_ ?_
    · rintro i σ H2 hi ⟨z2, z3, z4, z5, ys, rfl, sm, hy, hT, hall⟩
      rw [Int.zero_add]
      obtain ⟨ps, hps⟩ : ∃ ps, S[i]? = some ps := ⟨S[i], List.getElem?_eq_getElem hi⟩
      have hil : i < as.length := by rw [hlS]; exact hi
      have he : as[i]? = some as[i] := List.getElem?_eq_getElem hil
      obtain ⟨ps', hps', xs, hxs, hP⟩ := paired_get hSh he
      rw [hps] at hps'
      cases hps'
      generalize as[i] = e at he hxs
      have eS : S.take (i + 1) = S.take i ++ [ps] := take_snoc hps
      have hle := totP_take (S := S) (i + 1)
      have hpl : totP (S.take (i + 1)) = totP (S.take i) + ps.length := by rw [eS]; simp [totP]
      have hlen := Paired.length hP
      have hat : atI (as.map V.ref) (i : Int) = some (.ref e) := atI_nat (by rw [List.getElem?_map, he]; rfl)
      refine ⟨_, rfl, _, rfl, _, rfl, a, _, _, _, rfl, rfl, SqL.of (sm _ _ ha), hat, e, rfl, ⟨_, SqL.of (sm _ _ hxs)⟩, ?_⟩
      refine for_list (K := K) (a := e) (xs := xs) (fun j σ H3 => ∃ b z4 z5 zs, σ = [some (.ref a), some (.ref p), some (.int i), some (.int b), z4, z5] ∧ Same H H3 ∧ H3 p = some (.lst zs) ∧ T3sAt H3 zs (Fr.trips 0 (S.take i) ++ Fr.tag i (ps.take j)) ∧ Fr.okS (-1) ps = Fr.okS b (ps.drop j)) ⟨-1, z4, z5, ys, rfl, sm, hy, by simpa [Fr.tag] using hT, rfl⟩ ?_ ?_ ?_
      · rintro j σ H3 hj ⟨b, z4, z5, zs, rfl, sm3, _⟩
        exact sm3.seq (SqL.of hxs)
      · rintro j x σ H3 hx ⟨b, z4, z5, zs, rfl, sm3, hz, hT3, hok⟩
        obtain ⟨r, hr1, hr2⟩ := paired_get hP hx
        obtain ⟨q, rfl, hq⟩ := hr2.mono sm3.tps
        have ed : ps.drop j = r :: ps.drop (j + 1) := by
          obtain ⟨h1, h2⟩ := List.getElem?_eq_some_iff.mp hr1
          rw [List.drop_eq_getElem_cons h1, h2]
        rw [ed] at hok
        have bad : (r.1 ≤ b ∨ r.2 ≤ r.1) → S.all (Fr.okS (-1)) = false := fun hb => by
          have e1 : Fr.okS (-1) ps = false := by rw [hok]; simp only [Fr.okS]; rw [if_pos hb]
          cases h : S.all (Fr.okS (-1)) with
          | false => rfl
          | true => have := List.all_eq_true.mp h ps (List.mem_of_getElem? hps); rw [e1] at this; cases this
        refine ⟨q, _, rfl, SqT.of hq, rfl, _, _, rfl, _, _, rfl, rfl, ?_⟩
        refine ⟨_, rfl, _, rfl, _, _, rfl, rfl, _, rfl, ite2 (fun z => ?_) (fun z => ?_)⟩
        · have z' : r.1 ≤ b := by simpa using z
          exact iteT (kN (bad (.inl z')) H3 sm3)
        · have z' : ¬ r.1 ≤ b := by simpa using z
          refine ⟨_, rfl, _, rfl, _, _, rfl, rfl, _, rfl, ite2 (fun y => ?_) (fun y => ?_)⟩
          · have y' : r.2 ≤ r.1 := by simpa using y
            exact kN (bad (.inr y')) H3 sm3
          · have y' : ¬ r.2 ≤ r.1 := by simpa using y
            have lz := Paired.length hT3
            rw [List.length_append, trips_length] at lz
            refine ⟨_, rfl, _, rfl, .inl ⟨rfl, _, SqL.of hz⟩, _, rfl, _, rfl, _, rfl, by show 3 ≤ sizeLine; decide, fun Z hZ => ?_⟩
            have g3 := same_new (o := .tup [.int r.1, .int r.2, .int i]) hZ
            have hz4 := g3 _ _ hz
            refine ⟨p, zs, _, rfl, rfl, hz4, ?_, ?_⟩
            · refine Nat.lt_of_le_of_lt (m := 1000) ?_ (by decide)
              simp [Fr.tag] at lz; (first | lia | omega)
            · refine ⟨_, _, _, _, rfl, (sm3.trans g3).write hp, upd_same, ?_, ?_⟩
              · have e1 : Fr.tag i (ps.take (j + 1)) = Fr.tag i (ps.take j) ++ [(r.1, r.2, (i : Int))] := by rw [take_snoc hr1]; simp [Fr.tag]
                rw [e1, ← List.append_assoc]
                have tps : ∀ o, Tps (upd H3 Z (.tup [.int r.1, .int r.2, .int i])) (upd (upd H3 Z (.tup [.int r.1, .int r.2, .int i])) p o) := fun o => tps_lst hz4
                exact Paired.snoc (T3sAt.mono (T3sAt.mono hT3 g3.tps) (tps _)) ⟨Z, rfl, tps _ _ _ upd_same⟩
              · rw [hok]
                simp only [Fr.okS]
                rw [if_neg (fun q => q.elim z' y')]
      · rintro σ H3 ⟨b, z4, z5, zs, rfl, sm3, hz, hT3, hok⟩
        rw [hlen, List.drop_length] at hok
        rw [hlen, List.take_length] at hT3
        refine ⟨_, _, _, _, zs, rfl, sm3, hz, ?_, ?_⟩
        · rw [eS, trips_append]
          have hi0 : ((S.take i).length : Int) = i := by rw [List.length_take]; (first | lia | omega)
          have e2 : Fr.trips (0 + ((S.take i).length : Int)) [ps] = Fr.tag i ps := by simp only [Fr.trips, List.append_nil, hi0, Int.zero_add]
          rw [e2]; exact hT3
        · rw [eS, List.all_append, hall]
          simp [hok, Fr.okS]
    · rintro σ H2 ⟨z2, z3, z4, z5, ys, rfl, sm, hy, hT, hall⟩
      rw [List.take_length] at hT hall
      refine ⟨_, rfl, p, ys, (Fr.trips 0 S).map tr3, 3, rfl, SqL.of hy, t3_tups hT, fun t ht => ?_, by decide, by rw [List.length_map, trips_length]; exact h64, fun q hq => ?_⟩
      · obtain ⟨q, _, rfl⟩ := List.mem_map.mp ht; rfl
      · have g := same_new (o := .lst (Srt.out (Srt.rank ((Fr.trips 0 S).map tr3)) .non ys)) hq
        exact kY hall q _ _ (sm.trans g) (sm.free hq) upd_same (T3sAt.mono (Srt.out_paired _ hT) g.tps)
noncomputable def spDO (K : PySem.W.Frag) : Sp := fun vs H Q _ => ∃ b a xs rs as S, vs = [.ref b, .ref a] ∧ SqL K H b xs ∧ RowsAt H xs rs ∧ rs.length ≤ 1000 ∧ SsAt H a as S ∧ totP S < 64 ∧ S.length ≤ 300 ∧ ∀ H', Same H H' → Q (.bl (doB rs S)) H'
theorem scDO : FnScope ["_law_bank", "_law_shares", "_law_rows_here", "_law_behind", "_law_start", "_law_end", "_law_heir"] ["_law_bank", "_law_shares"] (defScope sDO) := ⟨rfl, rfl, rfl, by decide +kernel, rfl, by decide +kernel, by decide +kernel⟩
theorem ok_do {f f1 : Addr} {fd fd1 : FuncData} (F : FunG K "_law_dealt_out" "_law_dealt_out" sDO f fd .none) (T : Pl mg) (D1 : Df K mg "_law_rows" sRows ["_law_shares"] f1 fd1) : FnOk P w K mg base CX0 2 f fd ["_law_bank", "_law_shares"] (spDO K) := by
  have G1 : FnOk P w K mg base CX0 1 f1 fd1 ["_law_shares"] spRows := ok_rows D1.fn T
  refine F.ok scDO (fun vs H Q E h => ?_) (fun cdv A outer s H vs Q E hr h => ?_)
  · obtain ⟨_, _, _, _, _, _, rfl, _⟩ := h; rfl
  · obtain ⟨b, a, xs, rs, as, S, rfl, hB, hR, hrl, hSS, h64, hn, k⟩ := h
    refine ⟨_, pss_cons (ps_set (i := 2) scDO.nd rfl (Or.inl rfl) (pe_call G1 hr rfl D1.gl D1.fn.kp D1.bd .nil pass0 (pa_cons (pv 1) pa_nil)))
      (pss_cons (ps_if (pt_cmpR op_isN (pv 2) pe_non (nomark _)) (pss_one (ps_ret pe_bl)) pss_nil)
      (pss_cons (ps_set (i := 3) scDO.nd rfl (Or.inl rfl) pe_int)
      (pss_cons (ps_for PassesOwn.never rfl (pi_list (pv 2)) (pg_tup rfl (pgs_cons (pg_name (i := 4) scDO.nd rfl (Or.inl rfl)) (pgs_cons (pg_name (i := 5) scDO.nd rfl (Or.inl rfl)) (pgs_cons (pg_name (i := 6) scDO.nd rfl (Or.inl rfl)) pgs_nil))))
        (pss_cons (ps_if (pt_cmpR op_ne (pv 4) (pv 3) (nomark _)) (pss_one (ps_ret pe_bl)) pss_nil)
        (pss_one (ps_set (i := 3) scDO.nd rfl (Or.inl rfl) (pv 5)))))
      (pss_one (ps_ret (pe_cmpR op_eq (pv 3) (pe_callB (call_sum rfl) rfl T.sum PyProof.Rows.boot_sum (pa_cons (pe_comp (Nc := ["_law_row"]) (fv := [none]) ⟨rfl, by decide +kernel, rfl, by decide +kernel, trivial, by decide +kernel, rfl, trivial⟩ rfl (pi_list (pv 0))
        (fun _ _ _ _ _ => pg_name (i := 0) (show (["_law_row"] : List Str).Nodup by decide +kernel) rfl (Or.inl rfl)) (fun _ _ _ _ _ => pif_nil) (fun _ _ _ _ _ => pe_ix (ix_tupK (K := K) rfl) (pv 0) pe_int (fun _ _ => rfl))) pa_nil)) (nomark _))))))), ?_⟩
    refine ⟨_, rfl, a, as, S, rfl, hSS, h64, hn, fun hf H1 s1 => ?_, fun ht p ys H1 s1 hp hy hT => ?_⟩
    · refine ⟨_, rfl, rfl, true, rfl, iteT ?_⟩
      have e : doB rs S = false := by unfold doB; rw [hf]; rfl
      have := k H1 s1
      rw [e] at this
      exact this
    · refine ⟨_, rfl, rfl, false, rfl, iteF ?_⟩
      have lT := Paired.length hT
      refine ⟨_, rfl, p, rfl, ⟨_, SqL.of hy⟩, ?_⟩
      refine for_list (K := K) (a := p) (xs := ys) (fun i σ H2 => ∃ r z4 z5 z6, σ = [some (.ref b), some (.ref a), some (.ref p), some (.int r), z4, z5, z6] ∧ Same H1 H2 ∧ Fr.chain (Bk.tot rs) 0 (srt3 (Fr.trips 0 S)) = Fr.chain (Bk.tot rs) r ((srt3 (Fr.trips 0 S)).drop i)) ⟨0, none, none, none, rfl, Same.refl _, rfl⟩ ?_ ?_ ?_
      · rintro i σ H2 hi ⟨r, z4, z5, z6, rfl, sm, _⟩
        exact sm.seq (SqL.of hy)
      · rintro i x σ H2 hx ⟨r, z4, z5, z6, rfl, sm, hc⟩
        obtain ⟨t, ht', hq0⟩ := paired_get hT hx
        obtain ⟨q, rfl, hq⟩ := T3At.mono hq0 sm.tps
        have ed : (srt3 (Fr.trips 0 S)).drop i = t :: (srt3 (Fr.trips 0 S)).drop (i + 1) := by
          obtain ⟨h1, h2⟩ := List.getElem?_eq_some_iff.mp ht'
          rw [List.drop_eq_getElem_cons h1, h2]
        rw [ed] at hc
        refine ⟨q, _, rfl, SqT.of hq, rfl, _, _, rfl, _, _, rfl, _, _, rfl, rfl, ?_⟩
        refine ⟨_, rfl, _, rfl, rfl, _, rfl, ite2 (fun z => ?_) (fun z => ?_)⟩
        · have z' : t.1 ≠ r := by simpa using z
          have e : doB rs S = false := by unfold doB; rw [hc]; simp only [Fr.chain]; rw [if_pos z', Bool.and_false]
          have := k H2 (s1.trans sm)
          rw [e] at this
          exact this
        · have z' : t.1 = r := by simpa using z
          refine ⟨_, rfl, _, _, _, _, rfl, sm, ?_⟩
          rw [hc]
          simp only [Fr.chain]
          rw [if_neg (fun q => q z')]
      · rintro σ H2 ⟨r, z4, z5, z6, rfl, sm, hc⟩
        rw [lT, List.drop_length] at hc
        have sm2 := s1.trans sm
        have hlen := Paired.length hR
        refine ⟨_, rfl, _, rfl, b, rfl, ⟨_, sm2.seq hB⟩, fun q hq => ?_⟩
        refine comp_list (K := K) (a := b) (xs := xs) (fun i zs H3 => Same H2 H3 ∧ H3 q = some (.lst zs) ∧ zs = ((rs.take i).map (·.2)).map V.int) ⟨same_new hq, upd_same, rfl⟩ (fun i zs H3 h => ⟨(sm2.trans h.1).seq hB, h.2.1⟩) ?_ ?_
        · rintro i x zs H3 hi hx ⟨sm3, hz, rfl⟩
          obtain ⟨rr, hr1, hr2⟩ := hR.get hx
          obtain ⟨q', rfl, hq'⟩ := hr2.mono (sm2.trans sm3).tps
          refine ⟨(Wk.refl _).set rfl, yes ?_⟩
          refine ⟨_, rfl, q', _, 1, _, rfl, rfl, SqT.of hq', rfl, hz, ?_, nx hi ⟨sm3.write hq, upd_same, ?_⟩⟩
          · refine Nat.lt_of_le_of_lt (m := 1000) ?_ (by decide)
            simp only [List.length_map, List.length_take]; (first | lia | omega)
          · rw [take_snoc hr1]; simp
        · rintro zs H3 ⟨sm3, hz, rfl⟩
          refine ⟨q, _, rfl, SqL.of hz, rfl, ?_⟩
          have e1 : ((rs.take xs.length).map (·.2)).sum = Bk.tot rs := by rw [hlen, List.take_length, Q7.tot_sum]
          rw [e1]
          have e2 : decide (V.int r = V.int (Bk.tot rs)) = doB rs S := by
            unfold doB
            rw [hc, ht, Bool.true_and]
            simp [Fr.chain]
          rw [e2]
          exact k H3 (sm2.trans sm3)
end
end K7

set_option Elab.async false
set_option linter.all false
set_option maxRecDepth 100000
set_option maxHeartbeats 4000000
namespace K7
open PySem L2
open Q7 (T3sAt T3At take_snoc totP srt3 tr3 trips_length trips_append totP_take t3_append t3_tups ixN_nat min_eq)
noncomputable abbrev sSums : Stmt := Q7.top 27
noncomputable def SmAt (H : Hp) (as : List Addr) (n : Nat) (R : List (Bool × Int × Int)) : Prop := as.length = n ∧ as.Nodup ∧ ∀ (k : Nat) (c : Addr), as[k]? = some c → H c = some (.lst [.int (Fr.adds true (k : Int) R), .int (Fr.adds false (k : Int) R)])
theorem SmAt.mono {H H' : Hp} {as : List Addr} {n : Nat} {R : List (Bool × Int × Int)} (h : SmAt H as n R) (s : Same H H') : SmAt H' as n R := ⟨h.1, h.2.1, fun k c e => s _ _ (h.2.2 k c e)⟩
theorem SmAt.add {H : Hp} {as : List Addr} {n k : Nat} {R : List (Bool × Int × Int)} {c : Addr} {g : Bool} {l : Int} (h : SmAt H as n R) (hc : as[k]? = some c) :
    SmAt (upd H c (.lst (if g = true then [.int (Fr.adds true (k : Int) R + l), .int (Fr.adds false (k : Int) R)] else [.int (Fr.adds true (k : Int) R), .int (Fr.adds false (k : Int) R + l)]))) as n (R ++ [(g, (k : Int), l)]) := by
  refine ⟨h.1, h.2.1, fun j d e => ?_⟩
  rw [Fr.adds_snoc, Fr.adds_snoc]
  by_cases q : j = k
  · subst q
    rw [hc] at e
    cases e
    rw [upd_same]
    cases g <;> simp
  · have ne : d ≠ c := fun z => by
      subst z
      obtain ⟨h1, e1⟩ := List.getElem?_eq_some_iff.mp hc
      obtain ⟨h2, e2⟩ := List.getElem?_eq_some_iff.mp e
      exact q ((List.getElem_inj h.2.1).mp (e2.trans e1.symm))
    rw [upd_ne ne, h.2.2 j d e]
    have : ¬ ((k : Int) = (j : Int)) := fun z => q (by (first | lia | omega))
    simp [this]
section
variable {P : Program} {w : World} {K : PySem.W.Frag} {mg : Str → Option Value} {base : Heap}
seal L2.PSs L2.PS L2.PE L2.PA L2.PT L2.PW
noncomputable def spSums (K : PySem.W.Frag) : Sp := fun vs H Q _ => ∃ (b p : Addr) (xs : List V) (rs : List Bk.Rw) (ys : List V) (ts : List Fr.Tr) (n : Nat), vs = [.ref b, .ref p, .int n] ∧ SqL K H b xs ∧ RowsAt H xs rs ∧ rs ≠ [] ∧ rs.length ≤ 500 ∧ (∀ r ∈ rs, 0 < r.2) ∧ SqL K H p ys ∧ T3sAt H ys ts ∧ ts.length < 64 ∧ Fr.cover (Bk.tot rs) 0 ts = true ∧
  (∀ t ∈ ts, 0 ≤ t.2.2 ∧ t.2.2 < n) ∧ n ≤ 300 ∧ ∀ q as H', Same H H' → H q = none → H' q = some (.lst (as.map V.ref)) → SmAt H' as n (Bk.sbs rs (ts.map Fr.ow)) → Q (.ref q) H'
theorem scSu : FnScope ["_law_bank", "_law_rows_here", "_law_many", "_law_sums_here", "_law_at", "_law_left", "_law_start", "_law_end", "_law_heir", "_law_need", "_law_part", "_law_ground"] ["_law_bank", "_law_rows_here", "_law_many"] (defScope sSums) := ⟨rfl, rfl, rfl, by decide +kernel, rfl, by decide +kernel, by decide +kernel⟩
theorem ok_sums {f : Addr} {fd : FuncData} (F : FunG K "_law_sums" "_law_sums" sSums f fd .none) (T : Pl mg) : FnOk P w K mg base CX0 1 f fd ["_law_bank", "_law_rows_here", "_law_many"] (spSums K) := by
  refine F.ok scSu (fun vs H Q E h => ?_) (fun cdv A outer s H vs Q E hr h => ?_)
  · obtain ⟨_, _, _, _, _, _, _, rfl, _⟩ := h; rfl
  · obtain ⟨b, p, xs, rs, ys, ts, n, rfl, hB, hR, hne, hrl, hpos, hP, hT, h64, hC, hh, hn, k⟩ := h
    refine ⟨_, pss_cons (ps_comp (i := 3) (Nc := ["_law_k"]) (fv := [none]) ⟨rfl, by decide +kernel, rfl, by decide +kernel, trivial, by decide +kernel, rfl, trivial⟩ scSu.nd rfl (Or.inl rfl) rfl (pi_range1 rfl T.range (pa_cons (pv 2) pa_nil))
          (fun _ _ _ _ _ => pg_name (i := 0) (show (["_law_k"] : List Str).Nodup by decide +kernel) rfl (Or.inl rfl)) (fun _ _ _ _ _ => pif_nil) (fun _ _ _ _ _ => pe_lst (pa_cons pe_int (pa_cons pe_int pa_nil))))
      (pss_cons (ps_set (i := 4) scSu.nd rfl (Or.inl rfl) pe_int)
      (pss_cons (ps_set (i := 5) scSu.nd rfl (Or.inl rfl) (pe_ix ix_tup (pe_ix ix_list (pv 0) pe_int (fun _ _ => rfl)) pe_int (fun _ _ => rfl)))
      (pss_cons (ps_for PassesOwn.never rfl (pi_list (pv 1)) (pg_tup rfl (pgs_cons (pg_name (i := 6) scSu.nd rfl (Or.inl rfl)) (pgs_cons (pg_name (i := 7) scSu.nd rfl (Or.inl rfl)) (pgs_cons (pg_name (i := 8) scSu.nd rfl (Or.inl rfl)) pgs_nil))))
        (pss_cons (ps_set (i := 9) scSu.nd rfl (Or.inl rfl) (pe_op op_sub (pv 7) (pv 6)))
        (pss_one (ps_while PassesOwn.never (pt_cmpR op_gt (pv 9) pe_int (nomark _))
          (pss_cons (ps_set (i := 10) scSu.nd rfl (Or.inl rfl) (pe_callB (call_min2 rfl) rfl T.min PyProof.Rows.boot_min (pa_cons (pv 9) (pa_cons (pv 5) pa_nil))))
          (pss_cons (ps_set (i := 11) scSu.nd rfl (Or.inl rfl) (pe_callTy call_int1 rfl T.int PyProof.Rows.boot_int (pa_cons (pe_cmpR op_eq (pe_ix ix_tup (pe_ix ix_list (pv 0) (pv 4) (fun _ _ => rfl)) pe_int (fun _ _ => rfl)) pe_str (nomark _)) pa_nil)))
          (pss_cons (ps_asg (pe_op op_add (pe_ix ix_list (pe_ix ix_list (pv 3) (pv 8) (fun _ _ => rfl)) (pv 11) (fun _ _ => rfl)) (pv 10)) (pg_sub (pe_ix ix_list (pv 3) (pv 8) (fun _ _ => rfl)) (pv 11) set_list))
          (pss_cons (ps_set (i := 9) scSu.nd rfl (Or.inl rfl) (pe_op op_sub (pv 9) (pv 10)))
          (pss_cons (ps_set (i := 5) scSu.nd rfl (Or.inl rfl) (pe_op op_sub (pv 5) (pv 10)))
          (pss_one (ps_if (PW.pt (pw_and (pt_cmpR op_eq (pv 5) pe_int (nomark _)) (pw_and1 (pt_cmpR op_lt (pe_op op_add (pv 4) pe_int) (pe_callB call_len_seq rfl T.len PySem.boot_len (pa_cons (pv 0) pa_nil)) (nomark _)))))
            (pss_cons (ps_set (i := 4) scSu.nd rfl (Or.inl rfl) (pe_op op_add (pv 4) pe_int))
            (pss_one (ps_set (i := 5) scSu.nd rfl (Or.inl rfl) (pe_ix ix_tup (pe_ix ix_list (pv 0) (pv 4) (fun _ _ => rfl)) pe_int (fun _ _ => rfl))))) pss_nil)))))))))))
      (pss_one (ps_ret (pv 3)))))), ?_⟩
    have hlen := Paired.length hR
    have hlT := Paired.length hT
    refine ⟨_, rfl, _, rfl, by (first | lia | omega), by (first | lia | omega), fun q hq => ?_⟩
    refine comp_range (lo := 0) (n := n) (fun i zs H2 => Same H H2 ∧ H2 q = some (.lst zs) ∧ ∃ as : List Addr, zs = as.map V.ref ∧ as.length = i ∧ as.Nodup ∧ ∀ c ∈ as, H c = none ∧ c ≠ q ∧ H2 c = some (.lst [.int 0, .int 0])) ⟨same_new hq, upd_same, [], rfl, rfl, List.nodup_nil, by simp⟩ (fun i zs H2 h => h.2.1) ?_ ?_
    · rintro i zs H2 hi ⟨sm, hy, as, rfl, la, nd, hc⟩
      refine ⟨(Wk.refl _).set rfl, yes ?_⟩
      refine ⟨by show 2 ≤ sizeLine; decide, fun l hl => ?_⟩
      have g := same_new (o := .lst [.int 0, .int 0]) hl
      have nl : q ≠ l := ne_of_none hy hl
      refine ⟨g _ _ hy, ?_, nx hi ⟨(sm.trans g).write hq, upd_same, as ++ [l], by simp, by simp [la], ?_, fun c hc' => ?_⟩⟩
      · refine Nat.lt_of_le_of_lt (m := 1000) ?_ (by decide)
        rw [List.length_map]; (first | lia | omega)
      · rw [List.nodup_append]
        refine ⟨nd, by simp, fun x hx y hy' => ?_⟩
        rw [List.mem_singleton.mp hy']
        exact fun e => by have := (hc x hx).2.2; rw [e, hl] at this; cases this
      · rcases List.mem_append.mp hc' with z | z
        · obtain ⟨q1, q2, q3⟩ := hc c z
          exact ⟨q1, q2, by rw [upd_ne q2]; exact g _ _ q3⟩
        · rw [List.mem_singleton.mp z]
          exact ⟨sm.free hl, Ne.symm nl, by rw [upd_ne (Ne.symm nl), upd_same]⟩
    rintro zs H2 ⟨sm2, hy2, as, rfl, la, nd, hc⟩
    have sm0 : SmAt H2 as n [] := ⟨la, nd, fun j c e => (hc c (List.mem_of_getElem? e)).2.2⟩
    -- the first stretch
    obtain ⟨r0, rt, er⟩ : ∃ r0 rt, rs = r0 :: rt := by
      cases rs with
      | nil => exact absurd rfl hne
      | cons r t => exact ⟨r, t, rfl⟩
    have row : ∀ (j : Nat) (r : Bk.Rw) (H3 : Hp), rs[j]? = some r → Same H H3 → ∃ v q0, xs[j]? = some v ∧ v = .ref q0 ∧ H3 q0 = some (.tup [.str (gs r.1), .int r.2]) := fun j r H3 hj s3 => by
      have hjx : j < xs.length := by rw [hlen]; exact (List.getElem?_eq_some_iff.mp hj).1
      obtain ⟨r', hr1, hr2⟩ := hR.get (List.getElem?_eq_getElem hjx)
      rw [hj] at hr1
      cases hr1
      obtain ⟨q0, e, hq0⟩ := hr2.mono s3.tps
      exact ⟨_, q0, List.getElem?_eq_getElem hjx, e, hq0⟩
    obtain ⟨v0, q0, hv0, rfl, hq0⟩ := row 0 r0 H2 (by rw [er]; rfl) sm2
    refine ⟨_, rfl, b, _, 0, _, rfl, rfl, sm2.seq hB, atI_nat (j := 0) hv0, q0, _, 1, _, rfl, rfl, SqT.of hq0, rfl, ?_⟩
    have hB2 := sm2.seq hB
    refine ⟨_, rfl, p, rfl, ⟨_, sm2.seq hP⟩, ?_⟩
    -- one piece after another
    refine for_list (K := K) (a := p) (xs := ys) (fun i σ H3 => ∃ (at' : Nat) (left : Int) (X : List Bk.Rw) (dn : List (Bool × Int × Int)) (z6 z7 z8 z9 z10 z11 : Option V), σ = [some (.ref b), some (.ref p), some (.int n), some (.ref q), some (.int at'), some (.int left), z6, z7, z8, z9, z10, z11] ∧
      Same H H3 ∧ H3 q = some (.lst (as.map V.ref)) ∧ SmAt H3 as n dn ∧ Fr.WS rs at' left X ∧ dn ++ Bk.sbs X ((ts.drop i).map Fr.ow) = Bk.sbs rs (ts.map Fr.ow) ∧ Bk.tot X = Bk.ntot ((ts.drop i).map Fr.ow))
      ⟨0, r0.2, rs, [], none, none, none, none, none, none, rfl, sm2, hy2, sm0, ?_, rfl, ?_⟩ ?_ ?_ ?_
    · rw [er]; exact Fr.WS.first (hpos r0 (by rw [er]; simp))
    · have := Fr.cover_ntot hC
      rw [List.drop_zero]; (first | lia | omega)
    · rintro i σ H3 hi ⟨at', left, X, dn, z6, z7, z8, z9, z10, z11, rfl, sm3, _⟩
      exact sm3.seq hP
    · rintro i x σ H3 hx ⟨at', left, X, dn, z6, z7, z8, z9, z10, z11, rfl, sm3, hq3, hS3, hW, hrun, htot⟩
      obtain ⟨t, ht, hq'⟩ := paired_get hT hx
      obtain ⟨qt, rfl, hqt⟩ := T3At.mono hq' sm3.tps
      have ed : ts.drop i = t :: ts.drop (i + 1) := by
        obtain ⟨h1, h2⟩ := List.getElem?_eq_some_iff.mp ht
        rw [List.drop_eq_getElem_cons h1, h2]
      have tpos : t.1 < t.2.1 := ((Fr.cover_low hC).1 t (List.mem_of_getElem? ht)).2
      obtain ⟨hh0, hh1⟩ := hh t (List.mem_of_getElem? ht)
      obtain ⟨hx', ehx⟩ : ∃ hx' : Nat, t.2.2 = hx' := ⟨t.2.2.toNat, by (first | lia | omega)⟩
      have hxn : hx' < n := by (first | lia | omega)
      have hxa : hx' < as.length := by rw [hS3.1]; exact hxn
      refine ⟨qt, _, rfl, SqT.of hqt, rfl, _, _, rfl, _, _, rfl, _, _, rfl, rfl, ?_⟩
      refine ⟨_, rfl, _, rfl, _, _, rfl, rfl, ?_⟩
      -- the walk within the piece
      let W : Nat → St → Hp → Prop := fun m σ H4 => ∃ (at' : Nat) (left need : Int) (X Y : List _) (dn : List (Bool × Int × Int)) (z10 z11 : Option V), m = need.toNat ∧ σ = [some (.ref b), some (.ref p), some (.int n), some (.ref q), some (.int at'), some (.int left), some (.int t.1), some (.int t.2.1), some (.int t.2.2), some (.int need), z10, z11] ∧
        Same H H4 ∧ H4 q = some (.lst (as.map V.ref)) ∧ SmAt H4 as n dn ∧ Fr.WS rs at' left X ∧ 0 ≤ need ∧ Y = (if 0 < need then (t.2.2, need) :: (ts.drop (i + 1)).map Fr.ow else (ts.drop (i + 1)).map Fr.ow) ∧ dn ++ Bk.sbs X Y = Bk.sbs rs (ts.map Fr.ow) ∧ Bk.tot X = Bk.ntot Y
      refine ⟨W, ⟨_, at', left, t.2.1 - t.1, X, _, dn, z10, z11, rfl, rfl, sm3, hq3, hS3, hW, by (first | lia | omega), rfl, ?_, ?_⟩, ?_⟩
      · rw [if_pos (by (first | lia | omega))]
        rw [ed] at hrun
        exact hrun
      · rw [if_pos (by (first | lia | omega))]
        rw [ed] at htot
        exact htot
      rintro m σ H4 ⟨at1, left1, need, X1, Y1, dn1, z10', z11', rfl, rfl, sm4, hq4, hS4, hW4, hn0, hY, hrun4, htot4⟩
      refine ⟨_, rfl, _, _, rfl, rfl, _, rfl, ite2 (fun z => ?_) (fun z => ?_)⟩
      · have np : 0 < need := of_decide_eq_true z
        rw [if_pos np] at hY
        have xn : X1 ≠ [] := fun e => by
          rw [e, hY] at htot4
          simp only [Bk.tot, Bk.ntot] at htot4
          have := Bk.ntot_pos ((ts.drop (i + 1)).map Fr.ow) (fun r hr => by
            obtain ⟨t', ht', rfl⟩ := List.mem_map.mp hr
            have := ((Fr.cover_low hC).1 t' (List.mem_of_mem_drop ht')).2
            show 0 < t'.2.1 - t'.1
            (first | lia | omega))
          (first | lia | omega)
        obtain ⟨g, l, hrow, lp, hX⟩ := hW4.pos xn
        obtain ⟨v1, q1, hv1, rfl, hq1⟩ := row at1 (g, l) H4 hrow sm4
        refine ⟨fun σ' H' => ∃ m', m' < need.toNat ∧ W m' σ' H', fun _ _ h => h, ?_⟩
        refine ⟨_, rfl, _, rfl, _, _, rfl, ?_⟩
        rw [min_eq]
        have pp0 : 0 < min need left1 := by (first | lia | omega)
        have pn : min need left1 ≤ need := by (first | lia | omega)
        have pl : min need left1 ≤ left1 := by (first | lia | omega)
        obtain ⟨pt, hpt⟩ : ∃ pt, pt = min need left1 := ⟨_, rfl⟩
        rw [← hpt] at pp0 pn pl ⊢
        refine ⟨_, rfl, _, rfl, b, _, _, _, rfl, rfl, sm4.seq hB, atI_nat hv1, q1, _, 0, _, rfl, rfl, SqT.of hq1, rfl, rfl, .inr ⟨_, rfl, ?_⟩⟩
        have eg : (if decide (V.str (gs (g, l).1) = V.str "wet") = true then (1 : Int) else 0) = ((if g = true then 0 else 1 : Nat) : Int) := by
          show (if decide (V.str (gs g) = V.str "wet") = true then (1 : Int) else 0) = _
          cases g <;> decide +kernel
        rw [eg]
        have ha1 : as[hx']? = some as[hx'] := List.getElem?_eq_getElem hxa
        have hc1 := hS4.2.2 hx' _ ha1
        have hat : atI (as.map V.ref) t.2.2 = some (.ref as[hx']) := by rw [ehx]; exact atI_nat (by rw [List.getElem?_map, ha1]; rfl)
        have hadd := SmAt.add (g := g) (l := pt) hS4 ha1
        generalize as[hx'] = cA at ha1 hc1 hat hadd
        have hcA : cA ∈ as := List.mem_of_getElem? ha1
        have hat2 : atI [V.int (Fr.adds true (hx' : Int) dn1), V.int (Fr.adds false (hx' : Int) dn1)] ((if g = true then 0 else 1 : Nat) : Int) = some (.int (Fr.adds g (hx' : Int) dn1)) := by
          cases g
          · exact atI_nat (j := 1) rfl
          · exact atI_nat (j := 0) rfl
        have hix : ixN [V.int (Fr.adds true (hx' : Int) dn1), V.int (Fr.adds false (hx' : Int) dn1)].length ((if g = true then 0 else 1 : Nat) : Int) = some (if g = true then 0 else 1) := ixN_nat (by show (if g = true then 0 else 1) < 2; cases g <;> decide)
        refine ⟨_, rfl, _, rfl, q, _, _, _, rfl, rfl, SqL.of hq4, hat, _, rfl, cA, _, _, _, rfl, rfl, SqL.of hc1, hat2, _, rfl, _, _, rfl, rfl, ?_⟩
        refine ⟨_, rfl, _, rfl, q, _, _, _, rfl, rfl, SqL.of hq4, hat, _, rfl, cA, _, _, _, rfl, rfl, hc1, hix, ?_⟩
        have eset : [V.int (Fr.adds true (hx' : Int) dn1), V.int (Fr.adds false (hx' : Int) dn1)].set (if g = true then 0 else 1) (.int (Fr.adds g (hx' : Int) dn1 + pt)) = (if g = true then [.int (Fr.adds true (hx' : Int) dn1 + pt), .int (Fr.adds false (hx' : Int) dn1)] else [.int (Fr.adds true (hx' : Int) dn1), .int (Fr.adds false (hx' : Int) dn1 + pt)]) := by cases g <;> rfl
        have hcH : H cA = none := (hc cA hcA).1
        have ncq : q ≠ cA := Ne.symm (hc cA hcA).2.1
        rw [eset]
        have s5 : Same H (upd H4 cA (.lst (if g = true then [.int (Fr.adds true (hx' : Int) dn1 + pt), .int (Fr.adds false (hx' : Int) dn1)] else [.int (Fr.adds true (hx' : Int) dn1), .int (Fr.adds false (hx' : Int) dn1 + pt)]))) := sm4.write hcH
        have hq5 : upd H4 cA (.lst (if g = true then [.int (Fr.adds true (hx' : Int) dn1 + pt), .int (Fr.adds false (hx' : Int) dn1)] else [.int (Fr.adds true (hx' : Int) dn1), .int (Fr.adds false (hx' : Int) dn1 + pt)])) q = some (.lst (as.map V.ref)) := by rw [upd_ne ncq]; exact hq4
        generalize upd H4 cA (.lst (if g = true then [.int (Fr.adds true (hx' : Int) dn1 + pt), .int (Fr.adds false (hx' : Int) dn1)] else [.int (Fr.adds true (hx' : Int) dn1), .int (Fr.adds false (hx' : Int) dn1 + pt)])) = H5 at s5 hq5 hadd ⊢
        refine ⟨_, rfl, _, rfl, _, _, rfl, rfl, _, rfl, _, rfl, _, _, rfl, rfl, ?_⟩
        have hst := Fr.WS.step (bank := rs) (a := at1) (left := left1) (p := pt) (g := g) (l := l) hpos hrow pp0 pl
        have hsb := Fr.sbs_step g left1 (rs.drop (at1 + 1)) t.2.2 need ((ts.drop (i + 1)).map Fr.ow) pt hpt
        rw [hX, hY, hsb] at hrun4
        -- what holds behind the turn
        have run5 : (dn1 ++ [(g, (hx' : Int), pt)]) ++ Bk.sbs (if pt < left1 then (g, left1 - pt) :: rs.drop (at1 + 1) else rs.drop (at1 + 1)) (if 0 < need - pt then (t.2.2, need - pt) :: (ts.drop (i + 1)).map Fr.ow else (ts.drop (i + 1)).map Fr.ow) = Bk.sbs rs (ts.map Fr.ow) := by
          rw [← hrun4, List.append_assoc]
          congr 1
          rw [← ehx]
          have e1 : (if pt < need then (t.2.2, need - pt) :: (ts.drop (i + 1)).map Fr.ow else (ts.drop (i + 1)).map Fr.ow) = (if 0 < need - pt then (t.2.2, need - pt) :: (ts.drop (i + 1)).map Fr.ow else (ts.drop (i + 1)).map Fr.ow) := by
            by_cases e : pt < need
            · rw [if_pos e, if_pos (by (first | lia | omega))]
            · rw [if_neg e, if_neg (by (first | lia | omega))]
          rw [e1]; rfl
        have tot5 : Bk.tot (if pt < left1 then (g, left1 - pt) :: rs.drop (at1 + 1) else rs.drop (at1 + 1)) = Bk.ntot (if 0 < need - pt then (t.2.2, need - pt) :: (ts.drop (i + 1)).map Fr.ow else (ts.drop (i + 1)).map Fr.ow) := by
          rw [hX, hY] at htot4
          simp only [Bk.tot, Bk.ntot] at htot4
          by_cases e1 : pt < left1
          · rw [if_pos e1]
            by_cases e2 : 0 < need - pt
            · (first | lia | omega)
            · rw [if_neg e2]; simp only [Bk.tot]; (first | lia | omega)
          · rw [if_neg e1]
            by_cases e2 : 0 < need - pt
            · rw [if_pos e2]; simp only [Bk.ntot]; (first | lia | omega)
            · rw [if_neg e2]; (first | lia | omega)
        have lt5 : (need - pt).toNat < need.toNat := by (first | lia | omega)
        refine ⟨_, rfl, rfl, _, rfl, ite2 (fun y => ?_) (fun y => ?_)⟩
        · have y' : left1 - pt = 0 := by have := of_decide_eq_true y; injection this
          refine ⟨_, rfl, _, _, rfl, rfl, _, rfl, b, _, rfl, .inl (s5.seq hB), _, _, rfl, rfl, _, rfl, ite2 (fun u => ?_) (fun u => ?_)⟩
          · have u' : at1 + 1 < rs.length := by
              have := of_decide_eq_true u
              rw [hlen] at this; (first | lia | omega)
            have hr2 : rs[at1 + 1]? = some rs[at1 + 1] := List.getElem?_eq_getElem u'
            obtain ⟨v2, q2, hv2, rfl, hq2⟩ := row (at1 + 1) rs[at1 + 1] H5 hr2 s5
            refine ⟨_, rfl, _, _, rfl, rfl, ?_⟩
            have hat3 : atI xs ((at1 : Int) + 1) = some (.ref q2) := by
              have := atI_nat hv2
              rw [show ((at1 + 1 : Nat) : Int) = (at1 : Int) + 1 by (first | lia | omega)] at this
              exact this
            refine ⟨_, rfl, _, rfl, b, _, _, _, rfl, rfl, s5.seq hB, hat3, q2, _, 1, _, rfl, rfl, SqT.of hq2, rfl, ?_⟩
            rw [if_pos ⟨y', u'⟩, if_pos ⟨y', u'⟩] at hst
            have eD : (rs.getD (at1 + 1) (true, 0)).2 = rs[at1 + 1].2 := by rw [List.getD_eq_getElem?_getD, hr2]; rfl
            rw [eD] at hst
            refine ⟨(need - pt).toNat, lt5, at1 + 1, rs[at1 + 1].2, need - pt, _, _, _, some (.int pt), some (.int ((if g = true then 0 else 1 : Nat) : Int)), rfl, ?_, s5, hq5, hadd, hst, by (first | lia | omega), rfl, run5, tot5⟩
            show [_, _, _, _, some (V.int ((at1 : Int) + 1)), _, _, _, _, _, _, _] = _
            rw [show ((at1 : Int) + 1) = ((at1 + 1 : Nat) : Int) by (first | lia | omega)]
          · have u' : ¬ at1 + 1 < rs.length := fun q' => u (decide_eq_true (by show (at1 : Int) + 1 < (xs.length : Int); rw [hlen]; (first | lia | omega)))
            rw [if_neg (fun z => u' z.2), if_neg (fun z => u' z.2)] at hst
            exact ⟨(need - pt).toNat, lt5, at1, left1 - pt, need - pt, _, _, _, _, _, rfl, rfl, s5, hq5, hadd, hst, by (first | lia | omega), rfl, run5, tot5⟩
        · have y' : ¬ left1 - pt = 0 := fun q' => y (decide_eq_true (congrArg V.int q'))
          rw [if_neg (fun z => y' z.1), if_neg (fun z => y' z.1)] at hst
          refine iteF ?_
          exact ⟨(need - pt).toNat, lt5, at1, left1 - pt, need - pt, _, _, _, _, _, rfl, rfl, s5, hq5, hadd, hst, by (first | lia | omega), rfl, run5, tot5⟩
      · have np : ¬ 0 < need := fun q' => z (decide_eq_true q')
        rw [if_neg np] at hY
        rw [hY] at hrun4 htot4
        exact ⟨at1, left1, X1, dn1, _, _, _, _, _, _, rfl, sm4, hq4, hS4, hW4, hrun4, htot4⟩
    · rintro σ H3 ⟨at', left, X, dn, z6, z7, z8, z9, z10, z11, rfl, sm3, hq3, hS3, hW, hrun, htot⟩
      rw [hlT, List.drop_length] at hrun htot
      have eX : Bk.sbs X ([].map Fr.ow) = [] := by cases X <;> simp [Bk.sbs]
      rw [eX, List.append_nil] at hrun
      rw [hrun] at hS3
      exact ⟨_, rfl, k q as H3 sm3 hq hq3 hS3⟩
end
end K7

set_option Elab.async false
set_option linter.all false
set_option maxRecDepth 100000
set_option maxHeartbeats 4000000
namespace K7
open PySem L2
open Q7 (T3sAt T3At take_snoc totP srt3 tr3 trips_length trips_append totP_take)
noncomputable abbrev sLFair : Stmt := Q7.top 29
noncomputable def oth (R : List (Bool × Int × Int)) (k : Nat) : Bool := !(decide (Fr.adds true (k : Int) R = Fr.adds true 0 R) && decide (Fr.adds false (k : Int) R = Fr.adds false 0 R))
theorem alike_iff (g : Bool) (R : List (Bool × Int × Int)) : ∀ n, Fr.alike (Fr.sumL g n R) = true ↔ ∀ k, k < n → Fr.adds g (k : Int) R = Fr.adds g 0 R
  | 0 => by simp [Fr.sumL, Fr.alike]
  | n + 1 => by
    unfold Fr.sumL
    rw [List.range_succ_eq_map, List.map_cons, List.map_map]
    show (((List.range n).map ((fun (k : Nat) => Fr.adds g (k : Int) R) ∘ Nat.succ)).all fun x => x == Fr.adds g ((0 : Nat) : Int) R) = true ↔ _
    rw [List.all_eq_true]
    constructor
    · intro h k hk
      cases k with
      | zero => rfl
      | succ k =>
        have := h (Fr.adds g ((k + 1 : Nat) : Int) R) (List.mem_map.mpr ⟨k, List.mem_range.mpr (by (first | lia | omega)), rfl⟩)
        simpa using this
    · intro h x hx
      obtain ⟨k, hk, rfl⟩ := List.mem_map.mp hx
      have := h (k + 1) (by have := List.mem_range.mp hk; (first | lia | omega))
      show (Fr.adds g ((k + 1 : Nat) : Int) R == Fr.adds g ((0 : Nat) : Int) R) = true
      rw [this]; simp
theorem oth_none (n : Nat) (R : List (Bool × Int × Int)) : ((List.range n).filter (oth R) = []) ↔ (Fr.alike (Fr.sumL true n R) && Fr.alike (Fr.sumL false n R)) = true := by
  rw [Bool.and_eq_true, alike_iff, alike_iff, List.filter_eq_nil_iff]
  constructor
  · intro h
    have key : ∀ k, k < n → Fr.adds true (k : Int) R = Fr.adds true 0 R ∧ Fr.adds false (k : Int) R = Fr.adds false 0 R := fun k hk => by
      have := h k (List.mem_range.mpr hk)
      unfold oth at this
      simpa using this
    exact ⟨fun k hk => (key k hk).1, fun k hk => (key k hk).2⟩
  · rintro ⟨h1, h2⟩ k hk
    have hk' := List.mem_range.mp hk
    unfold oth
    simp [h1 k hk', h2 k hk']
noncomputable def smD (R : List (Bool × Int × Int)) (k : Nat) : PyData := .list [.int (Fr.adds true (k : Int) R), .int (Fr.adds false (k : Int) R)]
theorem smD_can (R : List (Bool × Int × Int)) : ∀ ks : List Nat, PyData.canLayAll0 (ks.map (smD R)) = true
  | [] => rfl
  | k :: ks => by
    have := smD_can R ks
    simp only [List.map_cons, PyData.canLayAll0, this, Bool.and_true]
    rfl
theorem smD_depth (R : List (Bool × Int × Int)) : ∀ ks : List Nat, PyData.depthAll (ks.map (smD R)) ≤ 6
  | [] => by show PyData.depthAll [] ≤ 6; decide
  | k :: ks => by
    have := smD_depth R ks
    simp only [List.map_cons, PyData.depthAll]
    have e : (smD R k).depth ≤ 6 := by simp [smD, PyData.depth, PyData.depthAll]
    (first | lia | omega)
theorem op_neDK {X : Cx} {K : PySem.W.Frag} (h : X.K = K) (hu : X.A.units + 64 < cLine) : OpR X (compareOp .NotEq) (rEqD K true) := h ▸ op_neD hu
theorem sm_dat {K : PySem.W.Frag} {H : Hp} {R : List (Bool × Int × Int)} {k : Nat} {c : Addr} (h : H c = some (.lst [.int (Fr.adds true (k : Int) R), .int (Fr.adds false (k : Int) R)])) : DatR K H (smD R k) (.ref c) := by
  refine ⟨c, _, rfl, SqL.of h, _, _, rfl, rfl, _, _, rfl, rfl, rfl⟩
theorem sms_dat {K : PySem.W.Frag} {H : Hp} {R : List (Bool × Int × Int)} {as : List Addr} {n : Nat} (hS : SmAt H as n R) : ∀ ks : List Nat, (∀ k ∈ ks, k < n) → DatA K H (ks.map (smD R)) (ks.map fun k => V.ref (as.getD k 0))
  | [], _ => rfl
  | k :: ks, h => by
    have hk : k < as.length := by rw [hS.1]; exact h k (by simp)
    have e : as[k]? = some (as.getD k 0) := by simp [List.getD_eq_getElem?_getD, hk]
    exact ⟨_, _, rfl, sm_dat (hS.2.2 k _ e), sms_dat hS ks fun x hx => h x (by simp [hx])⟩
theorem eqv_sm (R : List (Bool × Int × Int)) (k : Nat) : PyData.eqv (smD R k) (smD R 0) = !oth R k := by
  unfold oth smD
  simp [PyData.eqv, PyData.eqvAll]
  rfl
section
variable {P : Program} {w : World} {K : PySem.W.Frag} {mg : Str → Option Value} {base : Heap}
seal L2.PSs L2.PS L2.PE L2.PA L2.PT L2.PW
noncomputable def spLFair (K : PySem.W.Frag) : Sp := fun vs H Q _ => ∃ b a xs rs as S, vs = [.ref b, .ref a] ∧ SqL K H b xs ∧ RowsAt H xs rs ∧ rs.length ≤ 500 ∧ (∀ r ∈ rs, 0 < r.2) ∧ SsAt H a as S ∧ S.length ≤ 300 ∧ totP S < 64 ∧ ∀ H', Same H H' → Q (.bl (Q7.fairB rs S)) H'
theorem scLFa : FnScope ["_law_bank", "_law_shares", "_law_sums_here"] ["_law_bank", "_law_shares"] (defScope sLFair) := ⟨rfl, rfl, rfl, by decide +kernel, rfl, by decide +kernel, by decide +kernel⟩
theorem ok_lfair {f f1 f2 f3 : Addr} {fd fd1 fd2 fd3 : FuncData} (F : FunG K "_law_fair" "_law_fair" sLFair f fd .none) (T : Pl mg) (D1 : Df K mg "_law_rows" sRows ["_law_shares"] f1 fd1) (D2 : Df K mg "_law_sums" sSums ["_law_bank", "_law_rows_here", "_law_many"] f2 fd2)
    (D3 : Df K mg "_law_dealt_out" sDO ["_law_bank", "_law_shares"] f3 fd3) : FnOk P w K mg base CX0 3 f fd ["_law_bank", "_law_shares"] (spLFair K) := by
  have G1 : FnOk P w K mg base CX0 1 f1 fd1 ["_law_shares"] spRows := ok_rows D1.fn T
  have G2 : FnOk P w K mg base CX0 1 f2 fd2 ["_law_bank", "_law_rows_here", "_law_many"] (spSums K) := ok_sums D2.fn T
  have G3 : FnOk P w K mg base CX0 2 f3 fd3 ["_law_bank", "_law_shares"] (spDO K) := ok_do D3.fn T D1
  refine F.ok scLFa (fun vs H Q E h => ?_) (fun cdv A outer s H vs Q E hr h => ?_)
  · obtain ⟨_, _, _, _, _, _, rfl, _⟩ := h; rfl
  · obtain ⟨b, a, xs, rs, as, S, rfl, hB, hR, hrl, hpos, hSS, hn, h64, k⟩ := h
    have r1 : Room 1 (A.deeper (PyProof.Rows.envOfC "_law_fair" (defScope sLFair) s.heap.objs.size f cdv)) := hr.mono (by decide)
    refine ⟨_, pss_cons (ps_if (pt_not (pt_val (pe_call G3 hr rfl D3.gl D3.fn.kp D3.bd .nil pass0 (pa_cons (pv 0) (pa_cons (pv 1) pa_nil))))) (pss_one (ps_ret pe_bl)) pss_nil)
      (pss_cons (ps_if (pt_cmpR (op_eqD hr.units) (pv 0) (pe_lst pa_nil) (nomark _)) (pss_one (ps_ret pe_bl)) pss_nil)
      (pss_cons (ps_set (i := 2) scLFa.nd rfl (Or.inr rfl) (pe_call G2 r1 rfl D2.gl D2.fn.kp D2.bd .nil pass0 (pa_cons (pv 0) (pa_cons (pe_call G1 r1 rfl D1.gl D1.fn.kp D1.bd .nil pass0 (pa_cons (pv 1) pa_nil)) (pa_cons (pe_callB call_len_seq rfl T.len PySem.boot_len (pa_cons (pv 1) pa_nil)) pa_nil)))))
      (pss_one (ps_ret (pe_cmpR (op_eqD hr.units) (pe_comp (Nc := ["_law_one", "_law_sums_here"]) (fv := [none, some 2]) ⟨rfl, by decide +kernel, rfl, by decide +kernel, ⟨rfl, trivial⟩, rfl, rfl, ⟨⟨rfl, rfl, rfl, rfl⟩, trivial⟩⟩ rfl (pi_list (pv 2))
        (fun _ _ _ _ _ => pg_name (i := 0) (show (["_law_one", "_law_sums_here"] : List Str).Nodup by decide +kernel) rfl (Or.inl rfl))
        (fun _ _ _ _ _ => pif_one (pt_cmpR (op_neDK (K := K) rfl hr.units) (pv 0) (pe_ix (ix_listK (K := K) rfl) (pv 1) pe_int (fun _ _ => rfl)) (nomark _))) (fun _ _ _ _ _ => pv 0)) (pe_lst pa_nil) (nomark _)))))), ?_⟩
    have perm := Q7.srt3_perm (Fr.trips 0 S)
    have deq := Fr.dealt_eq (S := S) (Bk.tot rs) perm
    have deq' : (S.all Fr.apart && Fr.cover (Bk.tot rs) 0 (srt3 (Fr.trips 0 S))) = doB rs S := deq
    have fe : Q7.fairB rs S = (doB rs S && (Fr.alike (Fr.sumL true S.length (Q7.runsF rs S)) && Fr.alike (Fr.sumL false S.length (Q7.runsF rs S)))) := by
      unfold Q7.fairB; rw [deq']
    refine ⟨_, rfl, _, rfl, b, a, xs, rs, as, S, rfl, hB, hR, by (first | lia | omega), hSS, h64, hn, fun H1 s1 => ⟨_, rfl, ?_⟩⟩
    cases hD : doB rs S with
    | false =>
      have := k H1 s1
      rw [fe, hD] at this
      exact iteT this
    | true =>
      refine iteF ?_
      have hC : Fr.cover (Bk.tot rs) 0 (srt3 (Fr.trips 0 S)) = true := by
        have := deq'.trans hD
        rw [Bool.and_eq_true] at this; exact this.2
      have hO : S.all (Fr.okS (-1)) = true := by
        unfold doB at hD
        rw [Bool.and_eq_true] at hD; exact hD.1
      refine ⟨_, rfl, Nat.zero_le _, fun n1 hn1 => ?_⟩
      have t1 := same_new (o := .lst []) hn1
      have g1 : upd H1 n1 (.lst []) n1 = some (.lst []) := upd_same
      generalize upd H1 n1 (.lst []) = H2 at t1 g1 ⊢
      have s2 := s1.trans t1
      refine ⟨rowsD rs, rowsD [], rows_dat (s2.seq hB) (hR.mono s2.tps), rows_dat (SqL.of g1) .nil, rowsD_can _, rowsD_can _, rowsD_depth _, ?_⟩
      by_cases ers : rs = []
      · refine ⟨true, by rw [if_neg (by decide), eqv_rows, ers]; rfl, iteT ?_⟩
        have e : Q7.fairB rs S = true := by
          rw [fe, hD, Bool.true_and]
          have er : Q7.runsF rs S = [] := by unfold Q7.runsF; rw [ers, Bk.sbs_nil]
          rw [er]
          have al : ∀ g, Fr.alike (Fr.sumL g S.length []) = true := fun g => (alike_iff g [] S.length).mpr fun k _ => rfl
          rw [al true, al false]; rfl
        have := k H2 s2
        rw [e] at this
        exact this
      · refine ⟨false, by rw [if_neg (by decide), eqv_rows]; simp [ers], iteF ?_⟩
        obtain ⟨ha, hSh⟩ := id hSS
        have hlS := Paired.length hSh
        have lP : (srt3 (Fr.trips 0 S)).length < 64 := by rw [perm.length_eq, trips_length]; exact h64
        -- there are heirs
        have n0 : 0 < S.length := by
          cases S with
          | cons _ _ => simp
          | nil =>
            exfalso
            obtain ⟨r, t, er⟩ : ∃ r t, rs = r :: t := by
              cases rs with
              | nil => exact absurd rfl ers
              | cons r t => exact ⟨r, t, rfl⟩
            have h1 := hpos r (by rw [er]; simp)
            have h2 := Bk.tot_nonneg t fun x hx => Int.le_of_lt (hpos x (by rw [er]; simp [hx]))
            have e : srt3 (Fr.trips 0 []) = [] := List.eq_nil_of_length_eq_zero (by rw [perm.length_eq]; rfl)
            rw [e] at hC
            simp [Fr.cover, er, Bk.tot] at hC
            (first | lia | omega)
        refine ⟨_, rfl, _, rfl, a, as, S, rfl, hSS.mono s2, h64, hn, (fun hf => absurd hf (by rw [hO]; decide)), fun _ p ys H3 s3 hp hy hT => ?_⟩
        have s3' := s2.trans s3
        refine ⟨_, rfl, a, _, rfl, .inl (SqL.of (s3' _ _ ha)), ?_⟩
        refine ⟨b, p, xs, rs, ys, srt3 (Fr.trips 0 S), S.length, by rw [List.length_map, hlS]; rfl, s3'.seq hB, hR.mono s3'.tps, ers, hrl, hpos, SqL.of hy, hT, lP, hC, fun t ht => ?_, hn, fun q bs H4 s4 hq hq4 hS4 => ?_⟩
        · have := Fr.trips_heir (perm.mem_iff.mp ht)
          (first | lia | omega)
        have hS4' : SmAt H4 bs S.length (Q7.runsF rs S) := hS4
        generalize Q7.runsF rs S = RR at hS4' fe
        have s4' := s3'.trans s4
        have hb0 : bs[0]? = some (bs.getD 0 0) := by
          have : 0 < bs.length := by rw [hS4'.1]; exact n0
          simp [List.getD_eq_getElem?_getD, this]
        refine ⟨_, rfl, q, rfl, ⟨_, SqL.of hq4⟩, fun pc hpc => ?_⟩
        refine comp_list (K := K) (a := q) (xs := bs.map V.ref) (fun i zs H5 => Same H4 H5 ∧ H5 pc = some (.lst zs) ∧ zs = ((List.range i).filter (oth RR)).map fun k => V.ref (bs.getD k 0)) ⟨same_new hpc, upd_same, rfl⟩ (fun i zs H5 h => ⟨h.1.seq (SqL.of hq4), h.2.1⟩) ?_ ?_
        · rintro i x zs H5 hi hx ⟨sm5, hz5, rfl⟩
          rw [List.getElem?_map, Option.map_eq_some_iff] at hx
          obtain ⟨c, hc, rfl⟩ := hx
          have hS5 := hS4'.mono sm5
          have ec : bs.getD i 0 = c := by simp [List.getD_eq_getElem?_getD, hc]
          have hat : atI (bs.map V.ref) 0 = some (.ref (bs.getD 0 0)) := atI_nat (j := 0) (by rw [List.getElem?_map, hb0]; rfl)
          refine ⟨(Wk.refl _).set rfl, ?_⟩
          refine ⟨_, rfl, _, rfl, q, _, 0, _, rfl, rfl, SqL.of (sm5 _ _ hq4), hat, smD RR i, smD RR 0, sm_dat (hS5.2.2 i c hc), sm_dat (hS5.2.2 0 _ hb0), rfl, rfl, by show (smD RR i).depth ≤ 8; simp [smD, PyData.depth, PyData.depthAll], _, rfl, ?_⟩
          rw [if_pos rfl, eqv_sm, Bool.not_not]
          have tk : (List.range (i + 1)).filter (oth RR) = (List.range i).filter (oth RR) ++ (if oth RR i = true then [i] else []) := by
            rw [List.range_succ, List.filter_append, List.filter_cons, List.filter_nil]
          refine ite2 (fun z => ?_) (fun z => ?_)
          · refine ⟨_, rfl, hz5, ?_, nx hi ⟨sm5.write hpc, upd_same, ?_⟩⟩
            · refine Nat.lt_of_le_of_lt (m := 1000) ?_ (by decide)
              have h1 := List.length_filter_le (oth RR) (List.range i)
              rw [List.length_range] at h1
              rw [List.length_map, hS4'.1] at hi
              rw [List.length_map]; (first | lia | omega)
            · rw [tk, if_pos z, List.map_append]; simp [hc]
          · refine nx hi ⟨sm5, hz5, ?_⟩
            rw [tk, if_neg z, List.append_nil]
        · rintro zs H5 ⟨sm5, hz5, rfl⟩
          rw [List.length_map, hS4'.1] at hz5
          refine ⟨Nat.zero_le _, fun n2 hn2 => ?_⟩
          have g6 := same_new (o := .lst []) hn2
          have hS6 := hS4'.mono (sm5.trans g6)
          refine ⟨.list (((List.range S.length).filter (oth RR)).map (smD RR)), .list [], ⟨pc, _, rfl, SqL.of (g6 _ _ hz5), sms_dat hS6 _ fun k hk => List.mem_range.mp (List.mem_filter.mp hk).1⟩, ⟨n2, [], rfl, SqL.of upd_same, rfl⟩, smD_can RR _, rfl, ?_, ?_⟩
          · have := smD_depth RR ((List.range S.length).filter (oth RR))
            simp only [PyData.depth]; (first | lia | omega)
          · rw [if_neg (by decide)]
            have e : PyData.eqv (.list (((List.range S.length).filter (oth RR)).map (smD RR))) (.list []) = Q7.fairB rs S := by
              rw [fe, hD, Bool.true_and]
              have h := oth_none S.length RR
              generalize (List.range S.length).filter (oth RR) = ks at h
              cases ks with
              | nil => rw [h.mp rfl]; rfl
              | cons k ks =>
                cases z : (Fr.alike (Fr.sumL true S.length RR) && Fr.alike (Fr.sumL false S.length RR)) with
                | false => rfl
                | true => exact absurd (h.mpr z) (by simp)
            rw [e]
            exact k _ (s4'.trans (sm5.trans g6))
end
end K7

set_option Elab.async false
set_option linter.all false
set_option maxRecDepth 100000
set_option maxHeartbeats 4000000
namespace K7
open PySem L2
open Q7 (T3sAt T3At take_snoc totP srt3 tr3 trips_length trips_append totP_take)
noncomputable abbrev sLCuts : Stmt := Q7.top 30
noncomputable def plP (ps : List Pc) : List Int := ps.flatMap fun p => [p.1, p.2]
noncomputable def plL (S : List (List Pc)) : List Int := S.flatMap plP
theorem plP_snoc (ps : List Pc) (p : Pc) : plP (ps ++ [p]) = plP ps ++ [p.1, p.2] := by simp [plP]
theorem plL_snoc (S : List (List Pc)) (s : List Pc) : plL (S ++ [s]) = plL S ++ plP s := by simp [plL]
theorem plP_length (ps : List Pc) : (plP ps).length = 2 * ps.length := by
  induction ps with
  | nil => rfl
  | cons p t ih => simp [plP] at ih ⊢; (first | lia | omega)
theorem plL_length : ∀ S : List (List Pc), (plL S).length = 2 * totP S
  | [] => rfl
  | s :: t => by
    have h1 := plL_length t
    have h2 := plP_length s
    simp [plL, totP] at h1 h2 ⊢; (first | lia | omega)
theorem plL_mem (S : List (List Pc)) (x : Int) : x ∈ plL S ↔ x ∈ Q7.plc S := by
  unfold plL Q7.plc
  rw [List.mem_flatMap, List.mem_flatMap]
  constructor
  · rintro ⟨s, hs, hx⟩
    obtain ⟨p, hp, hx⟩ := List.mem_flatMap.mp hx
    refine ⟨s, hs, ?_⟩
    simp only [List.mem_cons, List.not_mem_nil, or_false] at hx
    rcases hx with e | e
    · exact List.mem_append_left _ (List.mem_map.mpr ⟨p, hp, e.symm⟩)
    · exact List.mem_append_right _ (List.mem_map.mpr ⟨p, hp, e.symm⟩)
  · rintro ⟨s, hs, hx⟩
    refine ⟨s, hs, ?_⟩
    rcases List.mem_append.mp hx with q | q
    · obtain ⟨p, hp, e⟩ := List.mem_map.mp q
      exact List.mem_flatMap.mpr ⟨p, hp, by simp [e]⟩
    · obtain ⟨p, hp, e⟩ := List.mem_map.mp q
      exact List.mem_flatMap.mpr ⟨p, hp, by simp [e]⟩
theorem fold_len : ∀ (l σ : List Int), (l.foldl Fr.dd σ).length ≤ σ.length + l.length
  | [], σ => by simp
  | k :: l, σ => by
    have h1 := fold_len l (Fr.dd σ k)
    have h2 : (Fr.dd σ k).length ≤ σ.length + 1 := by unfold Fr.dd; split <;> simp
    simp only [List.foldl_cons, List.length_cons]; (first | lia | omega)
noncomputable def dct (τ : List Int) : List (Key × V) := τ.map fun k => (Sum.inl k, V.bl true)
theorem dct_put (τ : List Int) (k : Int) : putK (dct τ) (Sum.inl k) (V.bl true) = dct (Fr.dd τ k) := by
  unfold putK Fr.dd
  have e : ((dct τ).any fun kv => decide (kv.1 = Sum.inl k)) = τ.any (· == k) := by
    unfold dct
    rw [List.any_map]
    congr 1
    funext x
    show decide ((Sum.inl x : Key) = Sum.inl k) = (x == k)
    by_cases h : x = k
    · subst h; simp
    · simp [h]
  rw [e]
  split
  · unfold dct
    rw [List.map_map]
    apply List.map_congr_left
    intro x _
    show (if (Sum.inl x : Key) = Sum.inl k then (Sum.inl x, V.bl true) else (Sum.inl x, V.bl true)) = _
    split <;> rfl
  · simp [dct]
theorem dct_length (τ : List Int) : (dct τ).length = τ.length := by simp [dct]
noncomputable def cutP (L : Int) (m : Int) : Bool := decide (m ≠ 0) && decide (m ≠ L)
section
variable {P : Program} {w : World} {K : PySem.W.Frag} {mg : Str → Option Value} {base : Heap}
seal L2.PSs L2.PS L2.PE L2.PA L2.PT L2.PW
noncomputable def spLCuts (K : PySem.W.Frag) : Sp := fun vs H Q _ => ∃ b a xs rs as S, vs = [.ref b, .ref a] ∧ SqL K H b xs ∧ RowsAt H xs rs ∧ rs.length ≤ 1000 ∧ SsAt H a as S ∧ S.length ≤ 300 ∧ totP S ≤ 300 ∧ ((plL S).foldl Fr.dd []).length < 64 ∧
  ∀ (p : Addr) (ks : List Int) (H' : Hp), Same H H' → H p = none → ks.Perm (((plL S).foldl Fr.dd []).filter (cutP (Bk.tot rs))) → ks.Pairwise (· ≤ ·) → H' p = some (.lst (ks.map V.int)) → Q (.ref p) H'
theorem scLCu : FnScope ["_law_bank", "_law_shares", "_law_size", "_law_places", "_law_share", "_law_start", "_law_end"] ["_law_bank", "_law_shares"] (defScope sLCuts) := ⟨rfl, rfl, rfl, by decide +kernel, rfl, by decide +kernel, by decide +kernel⟩
theorem ok_lcuts {f : Addr} {fd : FuncData} (F : FunG K "_law_cuts" "_law_cuts" sLCuts f fd .none) (T : Pl mg) : FnOk P w K mg base CX0 1 f fd ["_law_bank", "_law_shares"] (spLCuts K) := by
  refine F.ok scLCu (fun vs H Q E h => ?_) (fun cdv A outer s H vs Q E hr h => ?_)
  · obtain ⟨_, _, _, _, _, _, rfl, _⟩ := h; rfl
  · obtain ⟨b, a, xs, rs, as, S, rfl, hB, hR, hrl, ⟨ha, hSh⟩, hn, ht, h64, k⟩ := h
    have hu1 := Nat.lt_of_le_of_lt (Nat.add_le_add_left (show 1 ≤ 64 by decide) _) hr.units
    refine ⟨_, pss_cons (ps_set (i := 2) scLCu.nd rfl (Or.inr rfl) (pe_callB (call_sum rfl) rfl T.sum PyProof.Rows.boot_sum (pa_cons (pe_comp (Nc := ["_law_row"]) (fv := [none]) ⟨rfl, by decide +kernel, rfl, by decide +kernel, trivial, by decide +kernel, rfl, trivial⟩ rfl (pi_list (pv 0))
        (fun _ _ _ _ _ => pg_name (i := 0) (show (["_law_row"] : List Str).Nodup by decide +kernel) rfl (Or.inl rfl)) (fun _ _ _ _ _ => pif_nil) (fun _ _ _ _ _ => pe_ix (ix_tupK (K := K) rfl) (pv 0) pe_int (fun _ _ => rfl))) pa_nil)))
      (pss_cons (ps_set (i := 3) scLCu.nd rfl (Or.inl rfl) pe_dnewK)
      (pss_cons (ps_for PassesOwn.never rfl (pi_list (pv 1)) (pg_name (i := 4) scLCu.nd rfl (Or.inl rfl))
        (pss_one (ps_for PassesOwn.never rfl (pi_list (pv 4)) (pg_tup rfl (pgs_cons (pg_name (i := 5) scLCu.nd rfl (Or.inl rfl)) (pgs_cons (pg_name (i := 6) scLCu.nd rfl (Or.inl rfl)) pgs_nil)))
          (pss_cons (ps_dput hu1 (pv 3) (pv 5) pe_bl rfl) (pss_one (ps_dput hu1 (pv 3) (pv 6) pe_bl rfl))))))
      (pss_one (ps_ret (pe_callB call_sortedI rfl T.sorted PyProof.Rows.boot_sorted (pa_cons (pe_comp (Nc := ["_law_at", "_law_size"]) (fv := [none, some 2]) ⟨rfl, by decide +kernel, rfl, by decide +kernel, ⟨rfl, trivial⟩, rfl, rfl, ⟨⟨rfl, rfl, rfl, rfl⟩, trivial⟩⟩ rfl (pi_dict (pv 3))
        (fun _ _ _ _ _ => pg_name (i := 0) (show (["_law_at", "_law_size"] : List Str).Nodup by decide +kernel) rfl (Or.inl rfl))
        (fun _ _ _ _ _ => pif_one (PW.pt (pw_and (pt_cmpR op_ne (pv 0) pe_int (nomark _)) (pw_and1 (pt_cmpR op_ne (pv 0) (pv 1) (nomark _)))))) (fun _ _ _ _ _ => pv 0)) pa_nil)))))), ?_⟩
    have hlen := Paired.length hR
    have hlS := Paired.length hSh
    refine ⟨_, rfl, b, rfl, ⟨_, hB⟩, fun q hq => ?_⟩
    refine comp_list (K := K) (a := b) (xs := xs) (fun i zs H3 => Same H H3 ∧ H3 q = some (.lst zs) ∧ zs = ((rs.take i).map (·.2)).map V.int) ⟨same_new hq, upd_same, rfl⟩ (fun i zs H3 h => ⟨h.1.seq hB, h.2.1⟩) ?_ ?_
    · rintro i x zs H3 hi hx ⟨sm3, hz, rfl⟩
      obtain ⟨rr, hr1, hr2⟩ := hR.get hx
      obtain ⟨q', rfl, hq'⟩ := hr2.mono sm3.tps
      refine ⟨(Wk.refl _).set rfl, yes ?_⟩
      refine ⟨_, rfl, q', _, 1, _, rfl, rfl, SqT.of hq', rfl, hz, ?_, nx hi ⟨sm3.write hq, upd_same, ?_⟩⟩
      · refine Nat.lt_of_le_of_lt (m := 1000) ?_ (by decide)
        simp only [List.length_map, List.length_take]; (first | lia | omega)
      · rw [take_snoc hr1]; simp
    rintro zs H1 ⟨s1, hz, rfl⟩
    have e1 : ((rs.take xs.length).map (·.2)).sum = Bk.tot rs := by rw [hlen, List.take_length, Q7.tot_sum]
    refine ⟨q, _, rfl, SqL.of hz, ?_⟩
    rw [e1]
    intro pd hpd
    have hpdH : H pd = none := s1.free hpd
    have s2 := s1.trans (same_new (o := .dK []) hpd)
    have hpd2 : upd H1 pd (.dK []) pd = some (.dK []) := upd_same
    generalize upd H1 pd (.dK []) = H2 at s2 hpd2 ⊢
    refine ⟨_, rfl, a, rfl, ⟨_, SqL.of (s2 _ _ ha)⟩, ?_⟩
    refine for_list (K := K) (a := a) (xs := as.map V.ref) (fun i σ H3 => ∃ z4 z5 z6, σ = [some (.ref b), some (.ref a), some (.int (Bk.tot rs)), some (.ref pd), z4, z5, z6] ∧ Same H H3 ∧ H3 pd = some (.dK (dct ((plL (S.take i)).foldl Fr.dd [])))) ⟨none, none, none, rfl, s2, hpd2⟩ ?_ ?_ ?_
    · rintro i σ H3 hi ⟨z4, z5, z6, rfl, sm, _⟩
      exact sm.seq (SqL.of ha)
    · rintro i x σ H3 hx ⟨z4, z5, z6, rfl, sm, hd3⟩
      rw [List.getElem?_map, Option.map_eq_some_iff] at hx
      obtain ⟨c, hc, rfl⟩ := hx
      obtain ⟨ps, hps, ys, hys, hP⟩ := paired_get hSh hc
      have eS : S.take (i + 1) = S.take i ++ [ps] := take_snoc hps
      have hle := totP_take (S := S) (i + 1)
      have hpl : totP (S.take (i + 1)) = totP (S.take i) + ps.length := by rw [eS]; simp [totP]
      have hlp := Paired.length hP
      refine ⟨_, rfl, c, rfl, ⟨_, SqL.of (sm _ _ hys)⟩, ?_⟩
      refine for_list (K := K) (a := c) (xs := ys) (fun j σ H4 => ∃ z5 z6, σ = [some (.ref b), some (.ref a), some (.int (Bk.tot rs)), some (.ref pd), some (.ref c), z5, z6] ∧ Same H H4 ∧ H4 pd = some (.dK (dct ((plL (S.take i) ++ plP (ps.take j)).foldl Fr.dd [])))) ⟨_, _, rfl, sm, by simpa [plP] using hd3⟩ ?_ ?_ ?_
      · rintro j σ H4 hj ⟨z5, z6, rfl, sm4, _⟩
        exact sm4.seq (SqL.of hys)
      · rintro j x σ H4 hx' ⟨z5, z6, rfl, sm4, hd4⟩
        obtain ⟨r, hr1, hr2⟩ := paired_get hP hx'
        obtain ⟨q', rfl, hq'⟩ := hr2.mono sm4.tps
        have hjl : j < ps.length := (List.getElem?_eq_some_iff.mp hr1).1
        have fl := fold_len (plL (S.take i) ++ plP (ps.take j)) []
        rw [List.length_append, plL_length, plP_length, List.length_take, List.length_nil] at fl
        refine ⟨q', _, rfl, SqT.of hq', rfl, _, _, rfl, _, _, rfl, rfl, ?_⟩
        have w1 := DPut.k (k := Sum.inl r.1) (v := .bl true) hd4 (Nat.lt_of_le_of_lt (m := 2000) (by rw [dct_length]; (first | lia | omega)) (by decide))
        rw [dct_put] at w1
        refine ⟨_, rfl, _, rfl, pd, _, rfl, w1, ?_⟩
        have hd5 : upd H4 pd (.dK (dct (Fr.dd ((plL (S.take i) ++ plP (ps.take j)).foldl Fr.dd []) r.1))) pd = some (.dK (dct (Fr.dd ((plL (S.take i) ++ plP (ps.take j)).foldl Fr.dd []) r.1))) := upd_same
        have sm5 : Same H (upd H4 pd (.dK (dct (Fr.dd ((plL (S.take i) ++ plP (ps.take j)).foldl Fr.dd []) r.1)))) := sm4.write hpdH
        have l5 : (Fr.dd ((plL (S.take i) ++ plP (ps.take j)).foldl Fr.dd []) r.1).length ≤ ((plL (S.take i) ++ plP (ps.take j)).foldl Fr.dd []).length + 1 := by unfold Fr.dd; split <;> simp
        have w2 := DPut.k (k := Sum.inl r.2) (v := .bl true) hd5 (Nat.lt_of_le_of_lt (m := 2000) (by rw [dct_length]; (first | lia | omega)) (by decide))
        rw [dct_put] at w2
        refine ⟨_, rfl, _, rfl, pd, _, rfl, w2, ?_⟩
        refine ⟨_, _, rfl, sm5.write hpdH, ?_⟩
        rw [upd_same, take_snoc hr1, plP_snoc]
        simp only [List.foldl_append, List.foldl_cons, List.foldl_nil]
      · rintro σ H4 ⟨z5, z6, rfl, sm4, hd4⟩
        rw [hlp, List.take_length] at hd4
        refine ⟨_, _, _, rfl, sm4, ?_⟩
        rw [eS, plL_snoc]; exact hd4
    · rintro σ H3 ⟨z4, z5, z6, rfl, sm, hd3⟩
      rw [List.length_map, show as.length = S.length from hlS, List.take_length] at hd3
      generalize hτ : (plL S).foldl Fr.dd [] = τ at hd3 h64 k
      refine ⟨_, rfl, pd, _, rfl, hd3, fun o p hp => ?_⟩
      have sm4 : Same H (upd H3 pd (.frz o (.dK (dct τ)))) := sm.write hpdH
      have hd4 : upd H3 pd (.frz o (.dK (dct τ))) pd = some (.frz o (.dK (dct τ))) := upd_same
      generalize upd H3 pd (.frz o (.dK (dct τ))) = H4 at sm4 hd4 hp ⊢
      have npd : pd ≠ p := ne_of_none hd4 hp
      refine comp_dict (a := pd) (o := o) (kvs := dct τ) (fun i zs H5 => Same H4 H5 ∧ H5 p = some (.lst zs) ∧ zs = ((τ.take i).filter (cutP (Bk.tot rs))).map V.int) ⟨same_new hp, upd_same, rfl⟩ (fun i zs H5 h => ⟨h.1 _ _ hd4, h.2.1⟩) ?_ ?_
      · rintro i kv zs H5 hi hkv ⟨sm5, hz5, rfl⟩
        unfold dct at hkv
        rw [List.getElem?_map, Option.map_eq_some_iff] at hkv
        obtain ⟨m, hm, rfl⟩ := hkv
        have tk : τ.take (i + 1) = τ.take i ++ [m] := take_snoc hm
        have lf := List.length_filter_le (cutP (Bk.tot rs)) (τ.take i)
        rw [List.length_take] at lf
        refine ⟨(Wk.refl _).set rfl, ?_⟩
        refine ⟨_, rfl, rfl, _, rfl, ite2 (fun z => ?_) (fun z => ?_)⟩
        · have z' : m ≠ 0 := by
            have := z
            intro q'
            subst q'
            simp [kV] at this
          refine ⟨_, rfl, _, rfl, rfl, _, rfl, ite2 (fun y => ?_) (fun y => ?_)⟩
          · have y' : m ≠ Bk.tot rs := by
              have := y
              intro q'
              rw [q'] at this
              simp [kV] at this
            refine ⟨_, rfl, hz5, ?_, nx hi ⟨sm5.write hp, upd_same, ?_⟩⟩
            · refine Nat.lt_of_le_of_lt (m := 64) ?_ (by decide)
              rw [List.length_map]; (first | lia | omega)
            · rw [tk, List.filter_append, List.filter_cons, if_pos (by simp [cutP, z', y'])]; simp [kV]
          · have y' : m = Bk.tot rs := by
              have := y
              simp [kV] at this
              exact this
            refine nx hi ⟨sm5, hz5, ?_⟩
            rw [tk, List.filter_append, List.filter_cons, if_neg (by simp [cutP, y'])]; simp
        · have z' : m = 0 := by
            have := z
            simp [kV] at this
            exact this
          refine nx hi ⟨sm5, hz5, ?_⟩
          rw [tk, List.filter_append, List.filter_cons, if_neg (by simp [cutP, z'])]; simp
      · rintro zs H5 ⟨sm5, hz5, rfl⟩
        rw [dct_length, List.take_length] at hz5
        have lf := List.length_filter_le (cutP (Bk.tot rs)) τ
        refine ⟨p, _, rfl, SqL.of hz5, by (first | lia | omega), fun p' ms hp' pm pw => ?_⟩
        exact k p' ms _ ((sm4.trans sm5).trans (same_new hp')) ((sm4.trans sm5).free hp') pm pw upd_same
end
end K7

set_option Elab.async false
set_option linter.all false
set_option maxRecDepth 100000
set_option maxHeartbeats 4000000
namespace K7
open PySem L2
open Q7 (T3sAt T3At take_snoc totP srt3 tr3 trips_length trips_append totP_take)
noncomputable abbrev sFit : Stmt := Q7.top 31
theorem call_listK {X : Cx} {K : PySem.W.Frag} (h : X.K = K) : CallR X (.type "list") (fun xs H Q => ∃ p ys, xs = [.ref p] ∧ (SqL K H p ys ∨ SqT K H p ys) ∧ ∀ l, H l = none → Q (.ref l) (upd H l (.lst ys))) := h ▸ call_list_of
theorem comp_copy2 {K : PySem.W.Frag} {H : Hp} {a p : Addr} {as : List Addr} {S : List (List Pc)} {σc : St} (hσ : ∃ t, σc = none :: t) (hSS : SsAt H a as S) (hn : S.length ≤ 300) (hp : H p = none) {R : Hp → Prop}
    (k : ∀ bs H', Same H H' → SsAt H' p bs S → bs.Nodup → (∀ c ∈ bs, H c = none ∧ c ≠ p) → (∀ (i : Nat) (e c : Addr) (ys : List V), as[i]? = some e → bs[i]? = some c → H e = some (.lst ys) → H' c = some (.lst ys)) → R H') :
    ∃ W : Nat → Nat → List V → Hp → Prop, (∃ m, W 0 m [] (upd H p (.lst []))) ∧ cTurn (Itl K a) (gName 0) tYes (tCB (fun xs H Q => ∃ p ys, xs = [.ref p] ∧ (SqL K H p ys ∨ SqT K H p ys) ∧ ∀ l, H l = none → Q (.ref l) (upd H l (.lst ys))) (tCons (tVar 0) tNil)) σc p W R := by
  obtain ⟨σt, rfl⟩ := hσ
  obtain ⟨ha, hSh⟩ := id hSS
  have hlS := Paired.length hSh
  refine comp_list (K := K) (a := a) (xs := as.map V.ref) (fun i zs H2 => Same H H2 ∧ H2 p = some (.lst zs) ∧ ∃ bs : List Addr, zs = bs.map V.ref ∧ bs.length = i ∧ bs.Nodup ∧ (∀ c ∈ bs, H c = none ∧ c ≠ p) ∧ ∀ (j : Nat) (e c : Addr) (ys : List V), as[j]? = some e → bs[j]? = some c → H e = some (.lst ys) → H2 c = some (.lst ys)) ⟨same_new hp, upd_same, [], rfl, rfl, List.nodup_nil, by simp, by simp⟩ (fun i zs H2 h => ⟨h.1.seq (SqL.of ha), h.2.1⟩) ?_ ?_
  · rintro i x zs H2 hi hx ⟨sm, hz, bs, rfl, lb, nd, hc, hcp⟩
    rw [List.getElem?_map, Option.map_eq_some_iff] at hx
    obtain ⟨e, he, rfl⟩ := hx
    obtain ⟨ps, hps, ys, hys, hP⟩ := paired_get hSh he
    refine ⟨(Wk.refl _).set rfl, yes ?_⟩
    refine ⟨_, rfl, e, ys, rfl, .inl (SqL.of (sm _ _ hys)), fun l hl => ?_⟩
    have g := same_new (o := .lst ys) hl
    have npl : p ≠ l := ne_of_none hz hl
    have hz1 := g _ _ hz
    have hil : i < as.length := (List.getElem?_eq_some_iff.mp he).1
    have old : ∀ x ∈ bs, ∃ us, H2 x = some (.lst us) := fun x hx => by
      obtain ⟨ix, hix, ex⟩ := List.getElem_of_mem hx
      have hia : as[ix]? = some as[ix] := List.getElem?_eq_getElem (by (first | lia | omega))
      obtain ⟨_, _, us, hus, _⟩ := paired_get hSh hia
      exact ⟨us, hcp ix _ x us hia (by rw [← ex]; exact List.getElem?_eq_getElem hix) hus⟩
    refine ⟨hz1, ?_, nx hi ⟨(sm.trans g).write hp, upd_same, bs ++ [l], by simp, by simp [lb], ?_, fun c hc' => ?_, fun j e' c us hj hb hu => ?_⟩⟩
    · refine Nat.lt_of_le_of_lt (m := 1000) ?_ (by decide)
      rw [List.length_map, lb]; (first | lia | omega)
    · rw [List.nodup_append]
      refine ⟨nd, by simp, fun x hx y hy' => ?_⟩
      rw [List.mem_singleton.mp hy']
      obtain ⟨us, hus⟩ := old x hx
      exact ne_of_none hus hl
    · rcases List.mem_append.mp hc' with q | q
      · exact hc c q
      · rw [List.mem_singleton.mp q]; exact ⟨sm.free hl, Ne.symm npl⟩
    · rcases Nat.lt_or_ge j bs.length with hlt | hge
      · rw [List.getElem?_append_left hlt] at hb
        have h1 := hcp j e' c us hj hb hu
        have ncp : c ≠ p := (hc c (List.mem_of_getElem? hb)).2
        rw [upd_ne ncp]; exact g _ _ h1
      · rw [List.getElem?_append_right hge] at hb
        have ej : j = bs.length := by
          rcases Nat.lt_or_ge (j - bs.length) 1 with q | q
          · (first | lia | omega)
          · rw [List.getElem?_eq_none (by simpa using q)] at hb; cases hb
        subst ej
        simp at hb
        subst hb
        rw [lb, he] at hj
        cases hj
        rw [hys] at hu
        cases hu
        rw [upd_ne (Ne.symm npl), upd_same]
  · rintro zs H2 ⟨sm, hz, bs, rfl, lb, nd, hc, hcp⟩
    rw [List.length_map] at lb
    refine k bs H2 sm ⟨hz, ?_⟩ nd hc hcp
    have key : ∀ (as bs : List Addr) (S : List (List Pc)), bs.length = as.length → ShsAt H as S → (∀ (j : Nat) (e c : Addr) (ys : List V), as[j]? = some e → bs[j]? = some c → H e = some (.lst ys) → H2 c = some (.lst ys)) → ShsAt H2 bs S := by
      intro as
      induction as with
      | nil =>
        intro bs S hl h _
        cases bs with
        | nil => cases h; exact .nil
        | cons _ _ => simp at hl
      | cons a as ih =>
        intro bs S hl h hcp
        cases bs with
        | nil => simp at hl
        | cons c bs =>
          cases h with
          | cons h1 h2 =>
            obtain ⟨ys, hys, hP⟩ := h1
            exact .cons ⟨ys, hcp 0 a c ys rfl rfl hys, PcsAt.mono hP sm.tps⟩ (ih bs _ (by simpa using hl) h2 fun j e c' us hj hb hu => hcp (j + 1) e c' us (by simpa using hj) (by simpa using hb) hu)
    exact key as bs S lb hSh hcp
theorem comp_copy {K : PySem.W.Frag} {H : Hp} {a p : Addr} {as : List Addr} {S : List (List Pc)} {σc : St} (hσ : ∃ t, σc = none :: t) (hSS : SsAt H a as S) (hn : S.length ≤ 300) (hp : H p = none) {R : Hp → Prop} (k : ∀ bs H', Same H H' → SsAt H' p bs S → bs.Nodup → (∀ c ∈ bs, H c = none ∧ c ≠ p) → R H') :
    ∃ W : Nat → Nat → List V → Hp → Prop, (∃ m, W 0 m [] (upd H p (.lst []))) ∧ cTurn (Itl K a) (gName 0) tYes (tCB (fun xs H Q => ∃ p ys, xs = [.ref p] ∧ (SqL K H p ys ∨ SqT K H p ys) ∧ ∀ l, H l = none → Q (.ref l) (upd H l (.lst ys))) (tCons (tVar 0) tNil)) σc p W R := comp_copy2 hσ hSS hn hp fun bs H2 s2 hb nd hf _ => k bs H2 s2 hb nd hf
noncomputable def hD (rs : List Bk.Rw) (S : List (List Pc)) : PyData := .list [rowsD rs, ssD S]
theorem rows_depth : ∀ l : List Bk.Rw, PyData.depthAll (l.map rowD) ≤ 4
  | [] => by simp [PyData.depthAll]
  | r :: t => by
    have ih := rows_depth t
    simp only [List.map_cons, PyData.depthAll, rowD, PyData.depth] at ih ⊢
    (first | lia | omega)
theorem hD_depth (rs : List Bk.Rw) (S : List (List Pc)) : (hD rs S).depth ≤ 8 := by
  have h1 := rows_depth rs
  have h2 := shs_depth S
  simp only [hD, rowsD, ssD, PyData.depth, PyData.depthAll]
  (first | lia | omega)
theorem hD_can (rs : List Bk.Rw) (S : List (List Pc)) : (hD rs S).canLay0 = true := by
  show (PyData.canLay0 (rowsD rs) && (PyData.canLay0 (ssD S) && true)) = true
  rw [rowsD_can, ssD_can]; rfl
theorem hD_eqv (rs : List Bk.Rw) (S : List (List Pc)) : PyData.eqv (hD rs S) (hD rs S) = true := by
  simp only [hD, PyData.eqv, PyData.eqvAll, eqv_rows, eqv_ss]
  simp
theorem h_dat {K : PySem.W.Frag} {H : Hp} {c b a : Addr} {xs : List V} {rs : List Bk.Rw} {as : List Addr} {S : List (List Pc)} (hc : H c = some (.lst [.ref b, .ref a])) (hb : SqL K H b xs) (hR : RowsAt H xs rs) (hS : SsAt H a as S) : DatR K H (hD rs S) (.ref c) :=
  ⟨c, _, rfl, SqL.of hc, _, _, rfl, rows_dat hb hR, _, _, rfl, ss_dat hS, rfl⟩
noncomputable def nsD (ks : List Int) : PyData := .list (ks.map .int)
theorem ns_dat {K : PySem.W.Frag} {H : Hp} {c : Addr} {ks : List Int} (h : H c = some (.lst (ks.map V.int))) : DatR K H (nsD ks) (.ref c) := by
  refine ⟨c, _, rfl, SqL.of h, ?_⟩
  clear h
  induction ks with
  | nil => rfl
  | cons k ks ih => exact ⟨_, _, rfl, rfl, ih⟩
theorem ns_can : ∀ ks : List Int, PyData.canLayAll0 (ks.map .int) = true
  | [] => rfl
  | k :: ks => by show (true && PyData.canLayAll0 (ks.map .int)) = true; rw [ns_can ks]; rfl
theorem ns_depth : ∀ ks : List Int, PyData.depthAll (ks.map .int) ≤ 4
  | [] => by simp [PyData.depthAll]
  | k :: ks => by
    have := ns_depth ks
    simp only [List.map_cons, PyData.depthAll, PyData.depth]; (first | lia | omega)
theorem ns_eqv (ks : List Int) : PyData.eqv (nsD ks) (nsD ks) = true := by
  have := eqvAll_map (d := fun i : Int => PyData.int i) (fun a b => by show (a == b) = decide (a = b); rfl) ks ks
  show PyData.eqvAll (ks.map .int) (ks.map .int) = true
  rw [this]; simp
section
variable {P : Program} {w : World} {K : PySem.W.Frag} {mg : Str → Option Value} {base : Heap}
seal L2.PSs L2.PS L2.PE L2.PA L2.PT L2.PW
noncomputable def spFit (K : PySem.W.Frag) : Sp := fun vs H Q _ => ∃ b a xs rs as S, vs = [.ref b, .ref a] ∧ SqL K H b xs ∧ RowsAt H xs rs ∧ rs.length ≤ 500 ∧ SsAt H a as S ∧ S.length ≤ 300 ∧ totP S < 60 ∧ doB rs S = true ∧ ∀ H', Same H H' → Q (.bl true) H'
theorem scFit : FnScope ["_law_bank", "_law_shares", "_law_handed", "_law_found", "_law_at"] ["_law_bank", "_law_shares"] (defScope sFit) := ⟨rfl, rfl, rfl, by decide +kernel, rfl, by decide +kernel, by decide +kernel⟩
theorem ok_fit {f f1 f2 f3 f4 : Addr} {fd fd1 fd2 fd3 fd4 : FuncData} (F : FunG K "_law_cuts_fit" "_law_cuts_fit" sFit f fd .none) (T : Pl mg) (TQ : Q7.Py mg) (D1 : Df K mg "cuts" Q7.sCuts ["bank", "shares"] f1 fd1) (D2 : Df K mg "length" Q7.sLen ["bank"] f2 fd2)
    (D3 : Df K mg "_law_whole" sLWh ["_law_found"] f3 fd3) (D4 : Df K mg "_law_cuts" sLCuts ["_law_bank", "_law_shares"] f4 fd4) : FnOk P w K mg base CX0 3 f fd ["_law_bank", "_law_shares"] (spFit K) := by
  have G1 : FnOk P w K mg base CX0 2 f1 fd1 ["bank", "shares"] (Q7.spCuts K) := Q7.ok_cuts D1.fn TQ D2
  have G3 : FnOk P w K mg base CX0 1 f3 fd3 ["_law_found"] spLWh := ok_lwh D3.fn T
  have G4 : FnOk P w K mg base CX0 1 f4 fd4 ["_law_bank", "_law_shares"] (spLCuts K) := ok_lcuts D4.fn T
  refine F.ok scFit (fun vs H Q E h => ?_) (fun cdv A outer s H vs Q E hr h => ?_)
  · obtain ⟨_, _, _, _, _, _, rfl, _⟩ := h; rfl
  · obtain ⟨b, a, xs, rs, as, S, rfl, hB, hR, hrl, hSS, hn, h60, hDO, k⟩ := h
    have r1 : Room 1 (A.deeper (PyProof.Rows.envOfC "_law_cuts_fit" (defScope sFit) s.heap.objs.size f cdv)) := hr.mono (by decide)
    refine ⟨_, pss_cons (ps_set (i := 2) scFit.nd rfl (Or.inl rfl) (pe_lst (pa_cons (pe_callTy call_list_of rfl T.list PyProof.Rows.boot_list (pa_cons (pv 0) pa_nil)) (pa_cons (pe_comp (Nc := ["_law_share"]) (fv := [none]) ⟨rfl, by decide +kernel, rfl, by decide +kernel, trivial, by decide +kernel, rfl, trivial⟩ rfl (pi_list (pv 1))
          (fun _ _ _ _ _ => pg_name (i := 0) (show (["_law_share"] : List Str).Nodup by decide +kernel) rfl (Or.inl rfl)) (fun _ _ _ _ _ => pif_nil) (fun _ _ _ _ _ => pe_callTy (call_listK (K := K) rfl) rfl T.list PyProof.Rows.boot_list (pa_cons (pv 0) pa_nil))) pa_nil))))
      (pss_cons (ps_set (i := 3) scFit.nd rfl (Or.inl rfl) (pe_call G1 hr rfl D1.gl D1.fn.kp D1.bd .nil pass0 (pa_cons (pe_ix ix_list (pv 2) pe_int (fun _ _ => rfl)) (pa_cons (pe_ix ix_list (pv 2) pe_int (fun _ _ => rfl)) pa_nil))))
      (pss_cons (ps_if (PW.pt (pw_or (pt_not (pt_val (pe_callB call_isi rfl T.isi PyProof.Rows.boot_isinstance (pa_cons (pv 3) (pa_cons (pe_bltn (v := .ty "list") rfl T.list PyProof.Rows.boot_list rfl) pa_nil)))))
          (pw_or1 (pt_cmpR (op_neD hr.units) (pv 2) (pe_lst (pa_cons (pv 0) (pa_cons (pv 1) pa_nil))) (nomark _))))) (pss_one (ps_ret pe_bl)) pss_nil)
      (pss_cons (ps_for PassesOwn.never rfl (pi_list (pv 3)) (pg_name (i := 4) scFit.nd rfl (Or.inl rfl))
        (pss_one (ps_if (pt_not (pt_val (pe_call G3 r1 rfl D3.gl D3.fn.kp D3.bd .nil pass0 (pa_cons (pv 4) pa_nil)))) (pss_one (ps_ret pe_bl)) pss_nil)))
      (pss_one (ps_ret (pe_cmpR (op_eqD hr.units) (pv 3) (pe_call G4 r1 rfl D4.gl D4.fn.kp D4.bd .nil pass0 (pa_cons (pv 0) (pa_cons (pv 1) pa_nil))) (nomark _))))))), ?_⟩
    have perm := Q7.srt3_perm (Fr.trips 0 S)
    have hC : Fr.cover (Bk.tot rs) 0 (srt3 (Fr.trips 0 S)) = true := by
      have e : (S.all Fr.apart && Fr.cover (Bk.tot rs) 0 (srt3 (Fr.trips 0 S))) = doB rs S := Fr.dealt_eq (S := S) (Bk.tot rs) perm
      rw [hDO, Bool.and_eq_true] at e; exact e.2
    have few : ∀ l : List Int, (∀ x ∈ l, x ∈ Q7.plc S) → (l.foldl Fr.dd []).length < 64 := fun l hl => by
      have := places_few perm hC hl
      (first | lia | omega)
    -- what is handed in
    refine ⟨_, rfl, b, xs, rfl, .inl hB, fun pb hpb => ?_⟩
    have s1 := same_new (o := .lst xs) hpb
    have hpb1 : upd H pb (.lst xs) pb = some (.lst xs) := upd_same
    generalize upd H pb (.lst xs) = H1 at s1 hpb1 ⊢
    refine ⟨_, rfl, a, rfl, ⟨_, SqL.of (s1 _ _ hSS.1)⟩, fun pc hpc => ?_⟩
    refine comp_copy (K := K) ⟨_, rfl⟩ (SsAt.mono hSS s1) hn hpc fun bs H2 s2 hbs nd hfr => ?_
    refine ⟨by show 2 ≤ sizeLine; decide, fun ph hph => ?_⟩
    have g3 := same_new (o := .lst [.ref pb, .ref pc]) hph
    have hph3 : upd H2 ph (.lst [.ref pb, .ref pc]) ph = some (.lst [.ref pb, .ref pc]) := upd_same
    have hpb3 := g3 _ _ (s2 _ _ hpb1)
    have hbs3 := hbs.mono g3
    have s3 := (s1.trans s2).trans g3
    generalize upd H2 ph (.lst [.ref pb, .ref pc]) = H3 at hph3 hpb3 hbs3 s3 ⊢
    -- the program's cuts
    refine ⟨_, rfl, ph, _, 0, .ref pb, rfl, rfl, SqL.of hph3, rfl, _, rfl, ph, _, 1, .ref pc, rfl, rfl, SqL.of hph3, rfl, ?_⟩
    refine ⟨pb, pc, xs, rs, bs, S, rfl, SqL.of hpb3, hR.mono s3.tps, by (first | lia | omega), hbs3, hn, by (first | lia | omega), few _ (fun x h => h), fun p ms H4 s4 hp pm pw hp4 => ?_⟩
    have s4' := s3.trans s4
    refine ⟨_, rfl, _, _, _, rfl, .of (.lst hp4), .inl ⟨rfl, true, rfl, true, rfl, iteF ?_⟩⟩
    refine ⟨_, rfl, _, rfl, _, rfl, by show 2 ≤ sizeLine; decide, fun pk hpk => ?_⟩
    have g5 := same_new (o := .lst [.ref b, .ref a]) hpk
    have s5 := s4'.trans g5
    have hpk5 : upd H4 pk (.lst [.ref b, .ref a]) pk = some (.lst [.ref b, .ref a]) := upd_same
    have hp5 := g5 _ _ hp4
    have hph5 := g5 _ _ (s4 _ _ hph3)
    have hpb5 := g5 _ _ (s4 _ _ hpb3)
    have hbs5 := (hbs3.mono s4).mono g5
    generalize upd H4 pk (.lst [.ref b, .ref a]) = H5 at s5 hpk5 hp5 hph5 hpb5 hbs5 ⊢
    refine ⟨hD rs S, hD rs S, h_dat hph5 (SqL.of hpb5) (hR.mono s5.tps) hbs5, h_dat hpk5 (s5.seq hB) (hR.mono s5.tps) (hSS.mono s5), hD_can _ _, hD_can _ _, hD_depth _ _, false, by rw [if_pos rfl, hD_eqv]; rfl, iteF ?_⟩
    have hlm : ∀ i (x : V), (((Q7.cutF (Bk.tot rs) ms).map V.int))[i]? = some x → ∃ m, x = .int m := fun i x hx => by
      rw [List.getElem?_map, Option.map_eq_some_iff] at hx
      obtain ⟨m, _, rfl⟩ := hx
      exact ⟨m, rfl⟩
    refine ⟨_, rfl, p, rfl, ⟨_, SqL.of hp5⟩, ?_⟩
    refine for_list (K := K) (a := p) (xs := (Q7.cutF (Bk.tot rs) ms).map V.int) (fun i σ H6 => ∃ z4, σ = [some (.ref b), some (.ref a), some (.ref ph), some (.ref p), z4] ∧ Same H5 H6) ⟨none, rfl, Same.refl _⟩ ?_ ?_ ?_
    · rintro i σ H6 hi ⟨z4, rfl, sm⟩
      exact sm.seq (SqL.of hp5)
    · rintro i x σ H6 hx ⟨z4, rfl, sm⟩
      obtain ⟨m, rfl⟩ := hlm i x hx
      exact ⟨_, rfl, m, rfl, _, rfl, iteF ⟨_, rfl, sm⟩⟩
    · rintro σ H6 ⟨z4, rfl, sm⟩
      have s6 := s5.trans sm
      refine ⟨_, rfl, _, rfl, _, rfl, b, a, xs, rs, as, S, rfl, s6.seq hB, hR.mono s6.tps, by (first | lia | omega), hSS.mono s6, hn, by (first | lia | omega), few _ (fun x h => (plL_mem S x).mp h), fun p' ks H7 s7 hp' pm' pw' hp7 => ?_⟩
      have same : Q7.cutF (Bk.tot rs) ms = ks := cuts_same (l := plL S) (plL_mem S) pm pw pm' pw'
      have hp7' := s7 _ _ (sm _ _ hp5)
      rw [same] at hp7'
      refine ⟨nsD ks, nsD ks, ns_dat hp7', ns_dat hp7, ns_can ks, ns_can ks, Nat.le_trans (m := 5) (by have := ns_depth ks; simp only [nsD, PyData.depth]; (first | lia | omega)) (by decide), ?_⟩
      rw [if_neg (by decide), ns_eqv]
      exact k H7 (s6.trans s7)
end
end K7

set_option Elab.async false
set_option linter.all false
set_option maxRecDepth 100000
set_option maxHeartbeats 4000000
namespace K7
open PySem L2
open Q7 (take_snoc totP)
noncomputable abbrev sEdge : Stmt := Q7.top 19
noncomputable abbrev sWith : Stmt := Q7.top 21
noncomputable abbrev sPSp : Stmt := Q7.top 22
section
variable {P : Program} {w : World} {K : PySem.W.Frag} {mg : Str → Option Value} {base : Heap}
seal L2.PSs L2.PS L2.PE L2.PA L2.PT L2.PW
noncomputable def spWith : Sp := fun vs H Q _ => ∃ a ps, vs = [.ref a] ∧ ShAt H a ps ∧ ps.length ≤ 300 ∧ ∀ p qs H', Same H H' → H p = none → ShAt H' p qs → qs.length ≤ ps.length → Q (.ref p) H'
theorem scWith : FnScope ["_law_pieces"] ["_law_pieces"] (defScope sWith) := ⟨rfl, rfl, rfl, by decide +kernel, rfl, by decide +kernel, by decide +kernel⟩
theorem ok_with {f : Addr} {fd : FuncData} (F : FunG K "_law_with_length" "_law_with_length" sWith f fd .none) (T : Pl mg) : FnOk P w K mg base CX0 1 f fd ["_law_pieces"] spWith := by
  refine F.ok scWith (fun vs H Q E h => ?_) (fun cdv A outer s H vs Q E hr h => ?_)
  · obtain ⟨_, _, rfl, _⟩ := h; rfl
  · obtain ⟨a, ps, rfl, ⟨xs, ha, hP⟩, hl, k⟩ := h
    refine ⟨_, pss_one (ps_ret (pe_comp (Nc := ["_law_piece"]) (fv := [none]) ⟨rfl, by decide +kernel, rfl, by decide +kernel, trivial, by decide +kernel, rfl, trivial⟩ rfl (pi_list (pv 0))
      (fun _ _ _ _ _ => pg_name (i := 0) (show (["_law_piece"] : List Str).Nodup by decide +kernel) rfl (Or.inl rfl))
      (fun _ _ _ _ _ => pif_one (pt_cmpR op_lt (pe_ix (ix_tupK (K := K) rfl) (pv 0) pe_int (fun _ _ => rfl)) (pe_ix (ix_tupK (K := K) rfl) (pv 0) pe_int (fun _ _ => rfl)) (nomark _))) (fun _ _ _ _ _ => pv 0))), ?_⟩
    have hlen := Paired.length hP
    refine ⟨_, rfl, a, rfl, ⟨_, SqL.of ha⟩, fun p hp => ?_⟩
    refine comp_list (K := K) (a := a) (xs := xs) (fun i ys H2 => Same H H2 ∧ H2 p = some (.lst ys) ∧ ∃ qs, PcsAt H2 ys qs ∧ qs.length ≤ i) ⟨same_new hp, upd_same, [], .nil, by simp⟩ (fun i ys H2 h => ⟨h.1.seq (SqL.of ha), h.2.1⟩) ?_ ?_
    · rintro i x ys H2 hi hx ⟨sm, hy, qs, hQ, lq⟩
      obtain ⟨r, hr1, hr2⟩ := paired_get hP hx
      obtain ⟨q, rfl, hq⟩ := hr2.mono sm.tps
      have ly := Paired.length hQ
      refine ⟨(Wk.refl _).set rfl, ?_⟩
      refine ⟨_, rfl, q, _, 0, _, rfl, rfl, SqT.of hq, rfl, _, rfl, q, _, 1, _, rfl, rfl, SqT.of hq, rfl, _, _, rfl, rfl, _, rfl, ite2 (fun z => ?_) (fun z => ?_)⟩
      · refine ⟨_, rfl, hy, ?_, nx hi ⟨sm.write hp, upd_same, qs ++ [r], ?_, by simp; (first | lia | omega)⟩⟩
        · refine Nat.lt_of_le_of_lt (m := 1000) ?_ (by decide)
          (first | lia | omega)
        · have tp : Tps H2 (upd H2 p (.lst (ys ++ [.ref q]))) := tps_lst hy
          exact Paired.snoc (PcsAt.mono hQ tp) ⟨q, rfl, tp _ _ hq⟩
      · exact nx hi ⟨sm, hy, qs, hQ, by (first | lia | omega)⟩
    · rintro ys H2 ⟨sm, hy, qs, hQ, lq⟩
      exact k p qs H2 sm hp ⟨ys, hy, hQ⟩ (by (first | lia | omega))
noncomputable def spEdge : Sp := fun vs H Q _ => ∃ a as S e, vs = [.ref a, .int e] ∧ SsAt H a as S ∧ S.length ≤ 100 ∧ totP S ≤ 300 ∧ ∀ p bs S' H', Same H H' → SsAt H' p bs S' → S'.length = S.length → totP S' = totP S → Q (.ref p) H'
theorem scEdge : FnScope ["_law_shares", "_law_edge", "_law_made", "_law_share", "_law_row", "_law_start", "_law_end"] ["_law_shares", "_law_edge"] (defScope sEdge) := ⟨rfl, rfl, rfl, by decide +kernel, rfl, by decide +kernel, by decide +kernel⟩
theorem ok_edge {f : Addr} {fd : FuncData} (F : FunG K "_law_moved_edge" "_law_moved_edge" sEdge f fd .none) (T : Pl mg) : FnOk P w K mg base CX0 1 f fd ["_law_shares", "_law_edge"] spEdge := by
  refine F.ok scEdge (fun vs H Q E h => ?_) (fun cdv A outer s H vs Q E hr h => ?_)
  · obtain ⟨_, _, _, _, rfl, _⟩ := h; rfl
  · obtain ⟨a, as, S, e, rfl, ⟨ha, hSh⟩, hn, ht, k⟩ := h
    refine ⟨_, pss_cons (ps_set (i := 2) scEdge.nd rfl (Or.inl rfl) (pe_lst pa_nil))
      (pss_cons (ps_for PassesOwn.never rfl (pi_list (pv 0)) (pg_name (i := 3) scEdge.nd rfl (Or.inl rfl))
        (pss_cons (ps_set (i := 4) scEdge.nd rfl (Or.inl rfl) (pe_lst pa_nil))
        (pss_cons (ps_for PassesOwn.never rfl (pi_list (pv 3)) (pg_tup rfl (pgs_cons (pg_name (i := 5) scEdge.nd rfl (Or.inl rfl)) (pgs_cons (pg_name (i := 6) scEdge.nd rfl (Or.inl rfl)) pgs_nil)))
          (pss_one (ps_expr (pe_bm PySem.F.plainAttrs_list PySem.F.slot_list_append PySem.F.type_list_append mt_append (pv 4) (pa_cons (pe_tup (pa_cons
            (pe_op op_add (pv 5) (pe_callTy call_int1 rfl T.int PyProof.Rows.boot_int (pa_cons (pe_cmpR op_eq (pv 5) (pv 1) (nomark _)) pa_nil)))
            (pa_cons (pe_op op_add (pv 6) (pe_callTy call_int1 rfl T.int PyProof.Rows.boot_int (pa_cons (pe_cmpR op_eq (pv 6) (pv 1) (nomark _)) pa_nil))) pa_nil))) pa_nil)))))
        (pss_one (ps_expr (pe_bm PySem.F.plainAttrs_list PySem.F.slot_list_append PySem.F.type_list_append mt_append (pv 2) (pa_cons (pv 4) pa_nil)))))))
      (pss_one (ps_ret (pv 2)))), ?_⟩
    have hlS := Paired.length hSh
    refine ⟨Nat.zero_le _, fun p hp => ?_⟩
    have s1 := same_new (o := .lst []) hp
    have hp1 : upd H p (.lst []) p = some (.lst []) := upd_same
    generalize upd H p (.lst []) = H1 at s1 hp1 ⊢
    refine ⟨_, rfl, a, rfl, ⟨_, SqL.of (s1 _ _ ha)⟩, ?_⟩
    refine for_list (K := K) (a := a) (xs := as.map V.ref) (fun i σ H2 => ∃ z3 z4 z5 z6 bs S', σ = [some (.ref a), some (.int e), some (.ref p), z3, z4, z5, z6] ∧ Same H H2 ∧ SsAt H2 p bs S' ∧ (∀ c ∈ bs, c ≠ p) ∧ S'.length = i ∧ totP S' = totP (S.take i)) ⟨none, none, none, none, [], [], rfl, s1, ⟨hp1, .nil⟩, by simp, rfl, rfl⟩ ?_ ?_ ?_
    · rintro i σ H2 hi ⟨z3, z4, z5, z6, bs, S', rfl, sm, _⟩
      exact sm.seq (SqL.of ha)
    · rintro i x σ H2 hx ⟨z3, z4, z5, z6, bs, S', rfl, sm, hbs, nbs, lS, tS⟩
      rw [List.getElem?_map, Option.map_eq_some_iff] at hx
      obtain ⟨c, hc, rfl⟩ := hx
      obtain ⟨ps, hps, ys, hys, hP⟩ := paired_get hSh hc
      have hi : i < S.length := (List.getElem?_eq_some_iff.mp hps).1
      have eS : S.take (i + 1) = S.take i ++ [ps] := take_snoc hps
      have hle := Q7.totP_take (S := S) (i + 1)
      have hpl : totP (S.take (i + 1)) = totP (S.take i) + ps.length := by rw [eS]; simp [totP]
      have hlp := Paired.length hP
      refine ⟨Nat.zero_le _, fun pr hpr => ?_⟩
      have g3 := same_new (o := .lst []) hpr
      have npr : p ≠ pr := ne_of_none hbs.1 hpr
      have sm3 := sm.trans g3
      have hbs3 := hbs.mono g3
      have hpr3 : upd H2 pr (.lst []) pr = some (.lst []) := upd_same
      have hprH : H pr = none := sm.free hpr
      have nprb : ∀ c' ∈ bs, c' ≠ pr := fun c' hc' => by
        obtain ⟨ix, hix, ex⟩ := List.getElem_of_mem hc'
        obtain ⟨_, _, us, hus, _⟩ := paired_get hbs.2 (List.getElem?_eq_getElem hix)
        rw [ex] at hus
        exact ne_of_none hus hpr
      generalize upd H2 pr (.lst []) = H3 at g3 sm3 hbs3 hpr3 ⊢
      refine ⟨_, rfl, c, rfl, ⟨_, SqL.of (sm3 _ _ hys)⟩, ?_⟩
      refine for_list (K := K) (a := c) (xs := ys) (fun j σ H4 => ∃ z5 z6 zs qs, σ = [some (.ref a), some (.int e), some (.ref p), some (.ref c), some (.ref pr), z5, z6] ∧ Same H H4 ∧ SsAt H4 p bs S' ∧ H4 pr = some (.lst zs) ∧ PcsAt H4 zs qs ∧ qs.length = j) ⟨_, _, [], [], rfl, sm3, hbs3, hpr3, .nil, rfl⟩ ?_ ?_ ?_
      · rintro j σ H4 hj ⟨z5, z6, zs, qs, rfl, sm4, _⟩
        exact sm4.seq (SqL.of hys)
      · rintro j x σ H4 hx' ⟨z5, z6, zs, qs, rfl, sm4, hbs4, hz4, hQ4, lq⟩
        obtain ⟨r, hr1, hr2⟩ := paired_get hP hx'
        obtain ⟨q', rfl, hq'⟩ := hr2.mono sm4.tps
        have hj : j < ps.length := (List.getElem?_eq_some_iff.mp hr1).1
        have lz := Paired.length hQ4
        refine ⟨q', _, rfl, SqT.of hq', rfl, _, _, rfl, _, _, rfl, rfl, ?_⟩
        refine ⟨_, rfl, .inl ⟨rfl, _, SqL.of hz4⟩, _, rfl, _, rfl, _, rfl, rfl, .inr ⟨_, rfl, _, _, rfl, rfl, _, rfl, _, rfl, _, rfl, rfl, .inr ⟨_, rfl, _, _, rfl, rfl, by show 2 ≤ sizeLine; decide, fun Z hZ => ?_⟩⟩⟩
        have g5 := same_new (o := .tup [.int (r.1 + (if decide (V.int r.1 = V.int e) = true then (1 : Int) else 0)), .int (r.2 + (if decide (V.int r.2 = V.int e) = true then (1 : Int) else 0))]) hZ
        have hz5 := g5 _ _ hz4
        refine ⟨pr, zs, _, rfl, rfl, hz5, Nat.lt_of_le_of_lt (m := 1000) (by (first | lia | omega)) (by decide), ?_⟩
        have tp := tps_lst (o := .lst (zs ++ [.ref Z])) hz5
        refine ⟨_, _, zs ++ [.ref Z], qs ++ [(r.1 + (if decide (V.int r.1 = V.int e) = true then (1 : Int) else 0), r.2 + (if decide (V.int r.2 = V.int e) = true then (1 : Int) else 0))], rfl, (sm4.trans g5).write hprH, SsAt.write (hbs4.mono g5) hz5 npr nprb, upd_same, ?_, by simp [lq]⟩
        exact Paired.snoc ((PcsAt.mono hQ4 g5.tps).mono tp) ⟨Z, rfl, tp _ _ upd_same⟩
      · rintro σ H4 ⟨z5, z6, zs, qs, rfl, sm4, hbs4, hz4, hQ4, lq⟩
        have lb := Paired.length hbs4.2
        refine ⟨_, rfl, .inl ⟨rfl, _, SqL.of hbs4.1⟩, _, rfl, p, _, _, rfl, rfl, hbs4.1, Nat.lt_of_le_of_lt (m := 1000) (by rw [List.length_map]; (first | lia | omega)) (by decide), ?_⟩
        refine ⟨_, _, _, _, bs ++ [pr], S' ++ [qs], rfl, sm4.write hp, ⟨by rw [upd_same]; simp, Paired.snoc (ShsAt.write hbs4.1 hbs4.2 nbs) (ShAt.write ⟨zs, hz4, hQ4⟩ (Ne.symm npr) hbs4.1)⟩, fun c' hc' => ?_, by simp [lS], ?_⟩
        · rcases List.mem_append.mp hc' with z | z
          · exact nbs c' z
          · rw [List.mem_singleton.mp z]; exact Ne.symm npr
        · rw [hpl]
          simp [totP] at tS ⊢
          (first | lia | omega)
    · rintro σ H2 ⟨z3, z4, z5, z6, bs, S', rfl, sm, hbs, nbs, lS, tS⟩
      rw [List.length_map, show as.length = S.length from hlS, List.take_length] at tS
      rw [List.length_map, show as.length = S.length from hlS] at lS
      exact ⟨_, rfl, k p bs S' H2 sm hbs lS tS⟩
noncomputable def spPSp : Sp := fun vs H Q _ => ∃ a s e wy c, vs = [.ref a, .int wy, .int c] ∧ H a = some (.tup [.int s, .int e]) ∧ s < e ∧ ∀ p qs H', Same H H' → H p = none → ShAt H' p qs → qs.length ≤ 2 → Q (.ref p) H'
theorem scPSp : FnScope ["_law_piece", "_law_way_here", "_law_cell", "_law_start", "_law_end", "_law_middle"] ["_law_piece", "_law_way_here", "_law_cell"] (defScope sPSp) := ⟨rfl, rfl, rfl, by decide +kernel, rfl, by decide +kernel, by decide +kernel⟩
theorem one_pc {H H' : Hp} {Z p : Addr} {x y : Int} (hZ : H' Z = some (.tup [.int x, .int y])) (hp : H' p = some (.lst [.ref Z])) : ShAt H' p [(x, y)] := ⟨_, hp, .cons ⟨Z, rfl, hZ⟩ .nil⟩
theorem two_pc {H' : Hp} {Z Y p : Addr} {x y u v : Int} (hZ : H' Z = some (.tup [.int x, .int y])) (hY : H' Y = some (.tup [.int u, .int v])) (hp : H' p = some (.lst [.ref Z, .ref Y])) : ShAt H' p [(x, y), (u, v)] := ⟨_, hp, .cons ⟨Z, rfl, hZ⟩ (.cons ⟨Y, rfl, hY⟩ .nil)⟩
theorem ok_psp {f : Addr} {fd : FuncData} (F : FunG K "_law_piece_spoilt" "_law_piece_spoilt" sPSp f fd .none) (T : Pl mg) : FnOk P w K mg base CX0 1 f fd ["_law_piece", "_law_way_here", "_law_cell"] spPSp := by
  refine F.ok scPSp (fun vs H Q E h => ?_) (fun cdv A outer s H vs Q E hr h => ?_)
  · obtain ⟨_, _, _, _, _, rfl, _⟩ := h; rfl
  · obtain ⟨a, st, en, wy, c, rfl, ha, hse, k⟩ := h
    refine ⟨_, pss_cons (ps_asg (pv 0) (pg_tup rfl (pgs_cons (pg_name (i := 3) scPSp.nd rfl (Or.inl rfl)) (pgs_cons (pg_name (i := 4) scPSp.nd rfl (Or.inl rfl)) pgs_nil))))
      (pss_cons (ps_set (i := 5) scPSp.nd rfl (Or.inl rfl) (pe_op op_add (pv 3) (pe_op op_mod (pv 2) (pe_op op_add (pe_op op_sub (pv 4) (pv 3)) pe_int))))
      (pss_cons (ps_if (pt_cmpR op_eq (pv 1) pe_int (nomark _)) (pss_one (ps_ret (pe_lst (pa_cons (pe_tup (pa_cons (pv 3) (pa_cons (pe_op op_sub (pv 4) pe_int) pa_nil))) pa_nil)))) pss_nil)
      (pss_cons (ps_if (pt_cmpR op_eq (pv 1) pe_int (nomark _)) (pss_one (ps_ret (pe_lst (pa_cons (pe_tup (pa_cons (pe_op op_add (pv 3) pe_int) (pa_cons (pv 4) pa_nil))) pa_nil)))) pss_nil)
      (pss_cons (ps_if (pt_cmpR op_eq (pv 1) pe_int (nomark _)) (pss_one (ps_ret (pe_lst (pa_cons (pe_tup (pa_cons (pv 3) (pa_cons (pv 5) pa_nil))) (pa_cons (pe_tup (pa_cons (pv 5) (pa_cons (pv 4) pa_nil))) pa_nil))))) pss_nil)
      (pss_cons (ps_if (pt_cmpR op_eq (pv 1) pe_int (nomark _)) (pss_one (ps_ret (pe_lst (pa_cons (pe_tup (pa_cons (pe_op op_sub (pv 3) pe_int) (pa_cons (pv 4) pa_nil))) pa_nil)))) pss_nil)
      (pss_cons (ps_if (pt_cmpR op_eq (pv 1) pe_int (nomark _)) (pss_one (ps_ret (pe_lst (pa_cons (pe_tup (pa_cons (pv 3) (pa_cons (pv 4) pa_nil))) (pa_cons (pe_tup (pa_cons (pe_op op_add (pe_op op_add (pv 4) pe_int) (pe_op op_mod (pv 2) pe_int)) (pa_cons (pe_op op_add (pe_op op_add (pv 4) pe_int) (pe_op op_mod (pv 2) pe_int)) pa_nil))) pa_nil))))) pss_nil)
      (pss_cons (ps_if (pt_cmpR op_eq (pv 1) pe_int (nomark _)) (pss_one (ps_ret (pe_lst (pa_cons (pe_tup (pa_cons (pv 4) (pa_cons (pv 3) pa_nil))) pa_nil)))) pss_nil)
      (pss_cons (ps_if (pt_cmpR op_eq (pv 1) pe_int (nomark _)) (pss_one (ps_ret (pe_lst (pa_cons (pe_tup (pa_cons (pv 3) (pa_cons (pe_op op_add (pv 4) (pe_op op_pow pe_int pe_int)) pa_nil))) pa_nil)))) pss_nil)
      (pss_one (ps_ret (pe_lst (pa_cons (pv 0) pa_nil)))))))))))), ?_⟩
    have fin1 : ∀ {Z p : Addr} {x y : Int} {H1 : Hp}, Same H H1 → H1 Z = none → (upd H1 Z (.tup [.int x, .int y])) p = none → Q (.ref p) (upd (upd H1 Z (.tup [.int x, .int y])) p (.lst [.ref Z])) := fun {Z p x y H1} s1 hZ hp => by
      have g1 := same_new (o := .tup [.int x, .int y]) hZ
      have g2 := same_new (o := .lst [.ref Z]) hp
      exact k p [(x, y)] _ ((s1.trans g1).trans g2) ((s1.trans g1).free hp) (one_pc (H := H) (g2 _ _ upd_same) upd_same) (by simp)
    have fin2 : ∀ {Z Y p : Addr} {x y u v : Int} {H1 : Hp}, Same H H1 → H1 Z = none → (upd H1 Z (.tup [.int x, .int y])) Y = none → (upd (upd H1 Z (.tup [.int x, .int y])) Y (.tup [.int u, .int v])) p = none → Q (.ref p) (upd (upd (upd H1 Z (.tup [.int x, .int y])) Y (.tup [.int u, .int v])) p (.lst [.ref Z, .ref Y])) := fun {Z Y p x y u v H1} s1 hZ hY hp => by
      have g1 := same_new (o := .tup [.int x, .int y]) hZ
      have g2 := same_new (o := .tup [.int u, .int v]) hY
      have g3 := same_new (o := .lst [.ref Z, .ref Y]) hp
      exact k p [(x, y), (u, v)] _ (((s1.trans g1).trans g2).trans g3) (((s1.trans g1).trans g2).free hp) (two_pc (g3 _ _ (g2 _ _ upd_same)) (g3 _ _ upd_same) upd_same) (by simp)
    refine ⟨_, rfl, a, _, rfl, SqT.of ha, rfl, _, _, rfl, _, _, rfl, rfl, ?_⟩
    refine ⟨_, rfl, _, rfl, _, rfl, _, rfl, _, _, rfl, rfl, _, _, rfl, rfl, _, _, rfl, rfl, (by show 0 < en - st + 1; (first | lia | omega)), _, _, rfl, rfl, ?_⟩
    refine ⟨_, rfl, rfl, _, rfl, ite2 (fun _ => ?_) (fun _ => ?_)⟩
    · exact ⟨_, rfl, _, rfl, _, _, rfl, rfl, by show 2 ≤ sizeLine; decide, fun Z hZ => ⟨by show 1 ≤ sizeLine; decide, fun p hp => fin1 (Same.refl _) hZ hp⟩⟩
    refine ⟨_, rfl, rfl, _, rfl, ite2 (fun _ => ?_) (fun _ => ?_)⟩
    · exact ⟨_, rfl, _, _, rfl, rfl, _, rfl, by show 2 ≤ sizeLine; decide, fun Z hZ => ⟨by show 1 ≤ sizeLine; decide, fun p hp => fin1 (Same.refl _) hZ hp⟩⟩
    refine ⟨_, rfl, rfl, _, rfl, ite2 (fun _ => ?_) (fun _ => ?_)⟩
    · exact ⟨_, rfl, _, rfl, by show 2 ≤ sizeLine; decide, fun Z hZ => ⟨_, rfl, _, rfl, by show 2 ≤ sizeLine; decide, fun Y hY => ⟨by show 2 ≤ sizeLine; decide, fun p hp => fin2 (Same.refl _) hZ hY hp⟩⟩⟩
    refine ⟨_, rfl, rfl, _, rfl, ite2 (fun _ => ?_) (fun _ => ?_)⟩
    · exact ⟨_, rfl, _, _, rfl, rfl, _, rfl, by show 2 ≤ sizeLine; decide, fun Z hZ => ⟨by show 1 ≤ sizeLine; decide, fun p hp => fin1 (Same.refl _) hZ hp⟩⟩
    refine ⟨_, rfl, rfl, _, rfl, ite2 (fun _ => ?_) (fun _ => ?_)⟩
    · exact ⟨_, rfl, _, rfl, by show 2 ≤ sizeLine; decide, fun Z hZ => ⟨_, rfl, _, _, rfl, rfl, _, rfl, _, _, rfl, rfl, (by decide : (0 : Int) < 9), _, _, rfl, rfl, _, rfl, _, _, rfl, rfl, _, rfl, _, _, rfl, rfl, (by decide : (0 : Int) < 9), _, _, rfl, rfl, by show 2 ≤ sizeLine; decide, fun Y hY => ⟨by show 2 ≤ sizeLine; decide, fun p hp => fin2 (Same.refl _) hZ hY hp⟩⟩⟩
    refine ⟨_, rfl, rfl, _, rfl, ite2 (fun _ => ?_) (fun _ => ?_)⟩
    · exact ⟨_, rfl, _, rfl, by show 2 ≤ sizeLine; decide, fun Z hZ => ⟨by show 1 ≤ sizeLine; decide, fun p hp => fin1 (Same.refl _) hZ hp⟩⟩
    refine ⟨_, rfl, rfl, _, rfl, ite2 (fun _ => ?_) (fun _ => ?_)⟩
    · exact ⟨_, rfl, _, rfl, _, _, rfl, rfl, ⟨by decide, by decide, by decide⟩, _, _, rfl, rfl, by show 2 ≤ sizeLine; decide, fun Z hZ => ⟨by show 1 ≤ sizeLine; decide, fun p hp => fin1 (Same.refl _) hZ hp⟩⟩
    refine ⟨_, rfl, by show 1 ≤ sizeLine; decide, fun p hp => ?_⟩
    have g2 := same_new (o := .lst [.ref a]) hp
    exact k p [(st, en)] _ g2 hp (one_pc (H := H) (g2 _ _ ha) upd_same) (by simp)
end
end K7

set_option Elab.async false
set_option linter.all false
set_option maxRecDepth 100000
set_option maxHeartbeats 4000000
namespace K7
open PySem L2
open Q7 (take_snoc totP)
noncomputable abbrev sGiv : Stmt := Q7.top 23
noncomputable abbrev sWay : Stmt := Q7.top 24
theorem ss_get {H : Hp} {m : Addr} {bs : List Addr} {S : List (List Pc)} {i : Nat} (h : SsAt H m bs S) (hi : i < S.length) : ∃ c ys ps, atI (bs.map V.ref) (i : Int) = some (.ref c) ∧ bs[i]? = some c ∧ S[i]? = some ps ∧ H c = some (.lst ys) ∧ PcsAt H ys ps := by
  have hl := Paired.length h.2
  have hb : bs[i]? = some bs[i] := List.getElem?_eq_getElem (by (first | lia | omega))
  obtain ⟨ps, hps, ys, hys, hP⟩ := paired_get h.2 hb
  exact ⟨bs[i], ys, ps, atI_nat (by rw [List.getElem?_map, hb]; rfl), hb, hps, hys, hP⟩
theorem paired_set {α β : Type} {F : α → β → Prop} {a : α} {b : β} (q : F a b) : ∀ {l₁ : List α} {l₂ : List β} {i : Nat}, Paired F l₁ l₂ → Paired F (l₁.set i a) (l₂.set i b)
  | _, _, _, .nil => .nil
  | _, _, 0, .cons _ t => .cons q t
  | _, _, i + 1, .cons h t => .cons h (paired_set q t)
theorem ss_put {H : Hp} {m c : Addr} {bs : List Addr} {S : List (List Pc)} {ys : List V} {ps : List Pc} (i : Nat) (h : SsAt H m bs S) (nb : ∀ d ∈ bs, d ≠ m) (hc : H c = some (.lst ys)) (hP : PcsAt H ys ps) (hcm : c ≠ m) :
    SsAt (upd H m (.lst ((bs.map V.ref).set i (.ref c)))) m (bs.set i c) (S.set i ps) ∧ ∀ d ∈ bs.set i c, d ≠ m := by
  refine ⟨⟨by rw [upd_same, List.map_set], paired_set ?_ (ShsAt.write h.1 h.2 nb)⟩, fun d hd => ?_⟩
  · exact ShAt.write ⟨ys, hc, hP⟩ hcm h.1
  · rcases List.mem_or_eq_of_mem_set hd with q | q
    · exact nb d q
    · rw [q]; exact hcm
theorem totP_set : ∀ {S : List (List Pc)} {i : Nat} {q ps : List Pc}, S[i]? = some q → totP (S.set i ps) + q.length = totP S + ps.length
  | s :: S, 0, q, ps, h => by
    have : s = q := by simpa using h
    subst this
    simp [totP]; (first | lia | omega)
  | s :: S, i + 1, q, ps, h => by
    have ih := totP_set (S := S) (i := i) (ps := ps) (by simpa using h)
    simp [totP] at ih ⊢; (first | lia | omega)
theorem totP_get : ∀ {S : List (List Pc)} {i : Nat} {q : List Pc}, S[i]? = some q → q.length ≤ totP S
  | s :: S, 0, q, h => by
    have : s = q := by simpa using h
    subst this
    simp [totP]
  | s :: S, i + 1, q, h => by
    have ih := totP_get (S := S) (i := i) (by simpa using h)
    simp [totP] at ih ⊢; (first | lia | omega)
theorem paired_drop {α β : Type} {F : α → β → Prop} : ∀ (n : Nat) {l₁ : List α} {l₂ : List β}, Paired F l₁ l₂ → Paired F (l₁.drop n) (l₂.drop n)
  | 0, _, _, h => h
  | n + 1, _, _, .nil => .nil
  | n + 1, _, _, .cons _ t => paired_drop n t
theorem paired_take {α β : Type} {F : α → β → Prop} : ∀ (n : Nat) {l₁ : List α} {l₂ : List β}, Paired F l₁ l₂ → Paired F (l₁.take n) (l₂.take n)
  | 0, _, _, h => by simp; exact .nil
  | n + 1, _, _, .nil => .nil
  | n + 1, _, _, .cons r t => .cons r (paired_take n t)
theorem paired_erase {α β : Type} {F : α → β → Prop} : ∀ (n : Nat) {l₁ : List α} {l₂ : List β}, Paired F l₁ l₂ → Paired F (l₁.eraseIdx n) (l₂.eraseIdx n)
  | _, _, _, .nil => .nil
  | 0, _, _, .cons _ t => t
  | n + 1, _, _, .cons r t => .cons r (paired_erase n t)
theorem paired_rev {α β : Type} {F : α → β → Prop} : ∀ {l₁ : List α} {l₂ : List β}, Paired F l₁ l₂ → Paired F l₁.reverse l₂.reverse
  | _, _, .nil => .nil
  | _, _, .cons r t => by
    rw [List.reverse_cons, List.reverse_cons]
    exact Paired.snoc (paired_rev t) r
theorem paired_app {α β : Type} {F : α → β → Prop} : ∀ {l₁ : List α} {l₂ : List β} {m₁ : List α} {m₂ : List β}, Paired F l₁ l₂ → Paired F m₁ m₂ → Paired F (l₁ ++ m₁) (l₂ ++ m₂)
  | _, _, _, _, .nil, h => h
  | _, _, _, _, .cons r t, h => .cons r (paired_app t h)
theorem pcs_cut {H : Hp} {ys : List V} {ps : List Pc} (h : PcsAt H ys ps) (lo hi : Option Int) : ∃ qs, PcsAt H (cutV ys lo hi) qs ∧ qs.length ≤ ps.length := by
  unfold cutV
  refine ⟨(ps.drop (HT.sIx ys.length 0 lo)).take (HT.sIx ys.length ys.length hi - HT.sIx ys.length 0 lo), paired_take _ (paired_drop _ h), ?_⟩
  rw [List.length_take, List.length_drop]; (first | lia | omega)
theorem pcs_cut2 {H : Hp} {ys : List V} {ps : List Pc} (h : PcsAt H ys ps) (k : Nat) : ∃ qs, PcsAt H (cutV ys none (some (k : Int)) ++ cutV ys (some ((k : Int) + 1)) none) qs ∧ qs.length ≤ ps.length := by
  have hl := Paired.length h
  unfold cutV
  refine ⟨(ps.drop (HT.sIx ys.length 0 none)).take (HT.sIx ys.length ys.length (some (k : Int)) - HT.sIx ys.length 0 none) ++ (ps.drop (HT.sIx ys.length 0 (some ((k : Int) + 1)))).take (HT.sIx ys.length ys.length none - HT.sIx ys.length 0 (some ((k : Int) + 1))), paired_app (paired_take _ (paired_drop _ h)) (paired_take _ (paired_drop _ h)), ?_⟩
  have e1 : HT.sIx ys.length ys.length (some (k : Int)) = min k ys.length := HT.sIx_nat _ _ k
  have e2 : HT.sIx ys.length 0 (some ((k : Int) + 1)) = min (k + 1) ys.length := HT.sIx_nat _ _ (k + 1)
  rw [List.length_append, List.length_take, List.length_take, List.length_drop, List.length_drop, e1, e2, HT.sIx_none, HT.sIx_none]
  (first | lia | omega)
section
variable {P : Program} {w : World} {K : PySem.W.Frag} {mg : Str → Option Value} {base : Heap}
seal L2.PSs L2.PS L2.PE L2.PA L2.PT L2.PW
noncomputable def spWay : Sp := fun vs H Q _ => ∃ c, vs = [.int c] ∧ ∀ v H', Same H H' → Q (.int v) H'
theorem scWay : FnScope ["_law_cell", "_law_some"] ["_law_cell"] (defScope sWay) := ⟨rfl, rfl, rfl, by decide +kernel, rfl, by decide +kernel, by decide +kernel⟩
theorem ok_way {f : Addr} {fd : FuncData} (F : FunG K "_law_way" "_law_way" sWay f fd .none) (T : Pl mg) : FnOk P w K mg base CX0 1 f fd ["_law_cell"] spWay := by
  refine F.ok scWay (fun vs H Q E h => ?_) (fun cdv A outer s H vs Q E hr h => ?_)
  · obtain ⟨_, rfl, _⟩ := h; rfl
  · obtain ⟨c, rfl, k⟩ := h
    refine ⟨_, pss_cons (ps_set (i := 1) scWay.nd rfl (Or.inl rfl) (pe_lst (pa_cons pe_int (pa_cons pe_int (pa_cons pe_int (pa_cons pe_int (pa_cons pe_int (pa_cons pe_int (pa_cons pe_int (pa_cons pe_int (pa_cons pe_int (pa_cons pe_int (pa_cons pe_int (pa_cons pe_int (pa_cons pe_int (pa_cons pe_int (pa_cons pe_int (pa_cons pe_int (pa_cons pe_int (pa_cons pe_int (pa_cons pe_int (pa_cons pe_int pa_nil))))))))))))))))))))))
      (pss_cons (ps_set (i := 1) scWay.nd rfl (Or.inl rfl) (pe_op op_cat (pv 1) (pe_lst (pa_cons pe_int (pa_cons pe_int (pa_cons pe_int (pa_cons pe_int (pa_cons pe_int (pa_cons pe_int (pa_cons pe_int (pa_cons pe_int (pa_cons pe_int (pa_cons pe_int (pa_cons pe_int (pa_cons pe_int (pa_cons pe_int (pa_cons pe_int (pa_cons pe_int (pa_cons pe_int (pa_cons pe_int (pa_cons pe_int (pa_cons pe_int (pa_cons pe_int pa_nil)))))))))))))))))))))))
      (pss_one (ps_ret (pe_ix ix_list (pv 1) (pe_op op_mod (pv 0) pe_int) (fun _ _ => rfl))))), ?_⟩
    refine ⟨by show 20 ≤ sizeLine; decide, fun p hp => ?_⟩
    refine ⟨_, rfl, by show 20 ≤ sizeLine; decide, fun q hq => ?_⟩
    have g1 := same_new (o := .lst (([16, 20, 17, 13, 20, 14, 5, 20, 18, 12, 2, 15, 20, 11, 3, 10, 20, 19, 1, 20] : List Int).map V.int)) hp
    have g2 := same_new (o := .lst (([4, 6, 7, 20, 8, 9, 0, 20, 16, 17, 20, 14, 12, 20, 16, 13, 20, 20, 16, 20] : List Int).map V.int)) hq
    refine ⟨p, q, ([16, 20, 17, 13, 20, 14, 5, 20, 18, 12, 2, 15, 20, 11, 3, 10, 20, 19, 1, 20] : List Int).map V.int, ([4, 6, 7, 20, 8, 9, 0, 20, 16, 17, 20, 14, 12, 20, 16, 13, 20, 20, 16, 20] : List Int).map V.int, rfl, rfl, g2 _ _ upd_same, upd_same, by show 40 ≤ sizeLine; decide, fun r hr' => ?_⟩
    have g3 := same_new (o := .lst (([16, 20, 17, 13, 20, 14, 5, 20, 18, 12, 2, 15, 20, 11, 3, 10, 20, 19, 1, 20] : List Int).map V.int ++ ([4, 6, 7, 20, 8, 9, 0, 20, 16, 17, 20, 14, 12, 20, 16, 13, 20, 20, 16, 20] : List Int).map V.int)) hr'
    have m0 := Int.emod_nonneg c (show (40 : Int) ≠ 0 by decide)
    have m1 := Int.emod_lt_of_pos c (show (0 : Int) < 40 by decide)
    obtain ⟨v, hv, hat⟩ := atI_in (L := ([16, 20, 17, 13, 20, 14, 5, 20, 18, 12, 2, 15, 20, 11, 3, 10, 20, 19, 1, 20] : List Int).map V.int ++ ([4, 6, 7, 20, 8, 9, 0, 20, 16, 17, 20, 14, 12, 20, 16, 13, 20, 20, 16, 20] : List Int).map V.int) (i := c % 40) m0 m1
    rw [← List.map_append] at hv
    obtain ⟨n, _, rfl⟩ := List.mem_map.mp hv
    exact ⟨_, rfl, _, rfl, _, _, rfl, rfl, (by decide : (0 : Int) < 40), r, _, _, .int n, rfl, rfl, SqL.of upd_same, hat, k n _ ((g1.trans g2).trans g3)⟩
end
end K7

set_option Elab.async false
set_option linter.all false
set_option maxRecDepth 100000
set_option maxHeartbeats 4000000
namespace K7
open PySem L2
open Q7 (take_snoc totP)
structure MS (H0 H : Hp) (m : Addr) (bs : List Addr) (S : List (List Pc)) (n B : Nat) : Prop where
  keep : ∀ b o, b ≠ m → H0 b = some o → H b = some o
  ss : SsAt H m bs S
  nb : ∀ d ∈ bs, d ≠ m
  len : S.length = n
  tot : totP S ≤ B
theorem MS.same {H0 H H' : Hp} {m : Addr} {bs : List Addr} {S : List (List Pc)} {n B : Nat} (h : MS H0 H m bs S n B) (s : Same H H') : MS H0 H' m bs S n B := ⟨fun b o ne e => s _ _ (h.keep b o ne e), h.ss.mono s, h.nb, h.len, h.tot⟩
theorem MS.put {H0 H : Hp} {m c : Addr} {bs : List Addr} {S : List (List Pc)} {n B B' : Nat} {ys : List V} {ps q : List Pc} {i : Nat} (h : MS H0 H m bs S n B) (hc : H c = some (.lst ys)) (hP : PcsAt H ys ps) (hcm : c ≠ m) (hi : S[i]? = some q) (hB : B + ps.length ≤ B' + q.length) :
    MS H0 (upd H m (.lst ((bs.map V.ref).set i (.ref c)))) m (bs.set i c) (S.set i ps) n B' := by
  obtain ⟨h1, h2⟩ := ss_put i h.ss h.nb hc hP hcm
  refine ⟨fun b o ne e => by rw [upd_ne ne]; exact h.keep b o ne e, h1, h2, by rw [List.length_set]; exact h.len, ?_⟩
  have := totP_set (ps := ps) hi
  have := h.tot
  (first | lia | omega)
section
variable {P : Program} {w : World} {K : PySem.W.Frag} {mg : Str → Option Value} {base : Heap}
seal L2.PSs L2.PS L2.PE L2.PA L2.PT L2.PW
noncomputable def spGiv : Sp := fun vs H Q _ => ∃ (m : Addr) (bs : List Addr) (S : List (List Pc)) (a o k : Nat) (wy : Int) (q : List Pc), vs = [.ref m, .int a, .int o, .int wy, .int k] ∧ SsAt H m bs S ∧ (∀ d ∈ bs, d ≠ m) ∧ a < S.length ∧ o < S.length ∧ S[a]? = some q ∧ k < q.length ∧ totP S ≤ 24 ∧
  ∀ bs' S' H', MS H H' m bs' S' S.length 52 → Q (.ref m) H'
theorem scGiv : FnScope ["_law_made", "_law_at", "_law_other", "_law_way_here", "_law_k", "_law_piece", "_law_left"] ["_law_made", "_law_at", "_law_other", "_law_way_here", "_law_k"] (defScope sGiv) := ⟨rfl, rfl, rfl, by decide +kernel, rfl, by decide +kernel, by decide +kernel⟩
theorem ok_giv {f f1 : Addr} {fd fd1 : FuncData} (F : FunG K "_law_given" "_law_given" sGiv f fd .none) (T : Pl mg) (D1 : Df K mg "_law_joined" sJoin ["_law_share"] f1 fd1) : FnOk P w K mg base CX0 2 f fd ["_law_made", "_law_at", "_law_other", "_law_way_here", "_law_k"] spGiv := by
  have G1 : FnOk P w K mg base CX0 1 f1 fd1 ["_law_share"] spJoin := ok_join D1.fn T
  refine F.ok scGiv (fun vs H Q E h => ?_) (fun cdv A outer s H vs Q E hr h => ?_)
  · obtain ⟨_, _, _, _, _, _, _, _, rfl, _⟩ := h; rfl
  · obtain ⟨m, bs, S, a, o, k, wy, q, rfl, hSS, nb, ha, ho, hq, hk, h24, kont⟩ := h
    refine ⟨_, pss_cons (ps_set (i := 5) scGiv.nd rfl (Or.inl rfl) (pe_ix ix_list (pe_ix ix_list (pv 0) (pv 1) (fun _ _ => rfl)) (pv 4) (fun _ _ => rfl)))
      (pss_cons (ps_if (pt_cmpR op_eq (pv 3) pe_int (nomark _)) (pss_one (ps_asg (pe_callB call_sortedT rfl T.sorted PyProof.Rows.boot_sorted (pa_cons (pe_op op_cat (pe_ix ix_list (pv 0) (pv 2) (fun _ _ => rfl)) (pe_lst (pa_cons (pv 5) pa_nil))) pa_nil)) (pg_sub (pv 0) (pv 2) set_list))) pss_nil)
      (pss_cons (ps_if (pt_cmpR op_eq (pv 3) pe_int (nomark _)) (pss_cons (ps_asg (pe_op op_cat (pe_slice sl_list (pe_ix ix_list (pv 0) (pv 1) (fun _ _ => rfl)) po_none (po_some (pv 4))) (pe_slice sl_list (pe_ix ix_list (pv 0) (pv 1) (fun _ _ => rfl)) (po_some (pe_op op_add (pv 4) pe_int)) po_none)) (pg_sub (pv 0) (pv 1) set_list))
          (pss_one (ps_asg (pe_call G1 hr rfl D1.gl D1.fn.kp D1.bd .nil pass0 (pa_cons (pe_op op_cat (pe_ix ix_list (pv 0) (pv 2) (fun _ _ => rfl)) (pe_lst (pa_cons (pv 5) pa_nil))) pa_nil)) (pg_sub (pv 0) (pv 2) set_list)))) pss_nil)
      (pss_cons (ps_if (pt_cmpR op_eq (pv 3) pe_int (nomark _)) (pss_one (ps_asg (pe_callTy call_list_of rfl T.list PyProof.Rows.boot_list (pa_cons (pe_ix ix_list (pv 0) (pv 1) (fun _ _ => rfl)) pa_nil)) (pg_sub (pv 0) (pv 2) set_list))) pss_nil)
      (pss_cons (ps_if (PW.pt (pw_and (pt_cmpR op_eq (pv 3) pe_int (nomark _)) (pw_and1 (pt_cmpR (op_neD hr.units) (pe_ix ix_list (pv 0) (pv 2) (fun _ _ => rfl)) (pe_lst pa_nil) (nomark _)))))
          (pss_cons (ps_set (i := 6) scGiv.nd rfl (Or.inl rfl) (pe_op op_cat (pe_slice sl_list (pe_ix ix_list (pv 0) (pv 2) (fun _ _ => rfl)) po_none (po_some (pv 4))) (pe_slice sl_list (pe_ix ix_list (pv 0) (pv 2) (fun _ _ => rfl)) (po_some (pe_op op_add (pv 4) pe_int)) po_none)))
          (pss_one (ps_asg (pe_callB call_sortedT rfl T.sorted PyProof.Rows.boot_sorted (pa_cons (pe_op op_cat (pv 6) (pe_lst (pa_cons (pv 5) pa_nil))) pa_nil)) (pg_sub (pv 0) (pv 2) set_list)))) pss_nil)
      (pss_one (ps_ret (pv 0))))))), ?_⟩
    have lb := Paired.length hSS.2
    obtain ⟨cA, yA, pA, atA, hbA, hpA, hcA, hPA⟩ := ss_get hSS ha
    obtain ⟨cO, yO, pO, atO, hbO, hpO, hcO, hPO⟩ := ss_get hSS ho
    rw [hq] at hpA
    cases hpA
    have lA := Paired.length hPA
    have lO := Paired.length hPO
    have qA := totP_get hq
    have qO := totP_get hpO
    have nA : cA ≠ m := nb cA (List.mem_of_getElem? hbA)
    have nO : cO ≠ m := nb cO (List.mem_of_getElem? hbO)
    -- the piece
    obtain ⟨v, hv⟩ : ∃ v, yA[k]? = some v := ⟨yA[k]'(by (first | lia | omega)), List.getElem?_eq_getElem (by (first | lia | omega))⟩
    obtain ⟨r, hr1, qr, rfl, hqr⟩ := paired_get hPA hv
    have ms0 : MS H H m bs S S.length 24 := ⟨fun _ _ _ e => e, hSS, nb, rfl, h24⟩
    refine ⟨_, rfl, _, rfl, m, _, _, _, rfl, rfl, SqL.of hSS.1, atA, _, rfl, cA, _, _, _, rfl, rfl, SqL.of hcA, atI_nat hv, ?_⟩
    have ixO : ixN (bs.map V.ref).length (o : Int) = some o := Q7.ixN_nat (by rw [List.length_map]; (first | lia | omega))
    have ixA : ixN (bs.map V.ref).length (a : Int) = some a := Q7.ixN_nat (by rw [List.length_map]; (first | lia | omega))
    refine ⟨_, rfl, rfl, _, rfl, ite2 (fun z => ?_) (fun z => ?_)⟩
    · -- 11
      have z' : wy = 11 := by have := of_decide_eq_true z; injection this
      subst z'
      refine ⟨_, rfl, _, rfl, m, _, _, _, rfl, rfl, SqL.of hSS.1, atO, _, rfl, by show 1 ≤ sizeLine; decide, fun l hl => ?_⟩
      have g1 := same_new (o := .lst [.ref qr]) hl
      refine ⟨cO, l, yO, [.ref qr], rfl, rfl, g1 _ _ hcO, upd_same, Nat.le_trans (m := 1000) (by simp; (first | lia | omega)) (by decide), fun c hc => ?_⟩
      have g2 := same_new (o := .lst (yO ++ [.ref qr])) hc
      have s2 := g1.trans g2
      have hP2 : PcsAt (upd (upd H l (.lst [.ref qr])) c (.lst (yO ++ [.ref qr]))) (yO ++ [.ref qr]) (pO ++ [r]) := Paired.snoc (PcsAt.mono hPO s2.tps) ⟨qr, rfl, s2 _ _ hqr⟩
      have hc2 : upd (upd H l (.lst [.ref qr])) c (.lst (yO ++ [.ref qr])) c = some (.lst (yO ++ [.ref qr])) := upd_same
      generalize upd (upd H l (.lst [.ref qr])) c (.lst (yO ++ [.ref qr])) = H2 at s2 hP2 hc2 ⊢
      refine ⟨c, _, (pO ++ [r]).map pc2, 2, rfl, SqL.of hc2, pcs_tups hP2, fun t ht => ?_, by decide, by simp; (first | lia | omega), fun d hd => ?_⟩
      · obtain ⟨x, _, rfl⟩ := List.mem_map.mp ht; rfl
      have g3 := same_new (o := .lst (Srt.out (Srt.rank ((pO ++ [r]).map pc2)) .non (yO ++ [.ref qr]))) hd
      have hd3 : PcsAt H2 (Srt.out (Srt.rank ((pO ++ [r]).map pc2)) .non (yO ++ [.ref qr])) (srt2 (pO ++ [r])) := Srt.out_paired _ hP2
      have ms3 := ms0.same (s2.trans g3)
      have hm3 := ms3.ss.1
      have ndm : d ≠ m := fun e => by rw [e, ms0.same s2 |>.ss.1] at hd; cases hd
      refine ⟨_, rfl, _, rfl, m, _, _, o, rfl, rfl, hm3, ixO, ?_⟩
      have ms4 := ms3.put (B' := 52) (i := o) upd_same (PcsAt.mono hd3 g3.tps) ndm hpO (by rw [(srt2_perm _).length_eq]; simp; (first | lia | omega))
      refine ⟨_, rfl, rfl, false, by simp, iteF ?_⟩
      refine ⟨_, rfl, rfl, false, by simp, iteF ?_⟩
      refine ⟨_, rfl, rfl, false, by simp, iteF (iteF ?_)⟩
      exact ⟨_, rfl, kont _ _ _ ms4⟩
    refine ⟨_, rfl, rfl, _, rfl, ite2 (fun y => ?_) (fun y => ?_)⟩
    · -- 12
      have y' : wy = 12 := by have := of_decide_eq_true y; injection this
      subst y'
      refine ⟨_, rfl, _, rfl, m, _, _, _, rfl, rfl, SqL.of hSS.1, atA, _, rfl, _, rfl, cA, _, rfl, SqL.of hcA, fun c1 hc1 => ?_⟩
      have g1 := same_new (o := .lst (cutV yA none (some (k : Int)))) hc1
      have hc11 : upd H c1 (.lst (cutV yA none (some (k : Int)))) c1 = some (.lst (cutV yA none (some (k : Int)))) := upd_same
      generalize upd H c1 (.lst (cutV yA none (some (k : Int)))) = H1 at g1 hc11 ⊢
      refine ⟨_, rfl, _, rfl, m, _, _, _, rfl, rfl, SqL.of (g1 _ _ hSS.1), atA, _, rfl, _, _, rfl, rfl, _, rfl, cA, _, rfl, SqL.of (g1 _ _ hcA), fun c2 hc2 => ?_⟩
      have g2 := same_new (o := .lst (cutV yA (some ((k : Int) + 1)) none)) hc2
      have hc22 : upd H1 c2 (.lst (cutV yA (some ((k : Int) + 1)) none)) c2 = some (.lst (cutV yA (some ((k : Int) + 1)) none)) := upd_same
      have hc12 := g2 _ _ hc11
      have s2 := g1.trans g2
      generalize upd H1 c2 (.lst (cutV yA (some ((k : Int) + 1)) none)) = H2 at g2 hc22 hc12 s2 ⊢
      have l1 := cutV_length yA none (some (k : Int))
      have l2 := cutV_length yA (some ((k : Int) + 1)) none
      refine ⟨c1, c2, _, _, rfl, rfl, hc12, hc22, Nat.le_trans (m := 1000) (by (first | lia | omega)) (by decide), fun c hc => ?_⟩
      have g3 := same_new (o := .lst (cutV yA none (some (k : Int)) ++ cutV yA (some ((k : Int) + 1)) none)) hc
      have s3 := s2.trans g3
      obtain ⟨qs, hqs, lqs⟩ := pcs_cut2 hPA k
      have ncm : c ≠ m := fun e => by rw [e, (ms0.same s2).ss.1] at hc; cases hc
      have ms3 := ms0.same s3
      refine ⟨_, rfl, _, rfl, m, _, _, a, rfl, rfl, ms3.ss.1, ixA, ?_⟩
      have ms4 := ms3.put (B' := 24) (i := a) upd_same (PcsAt.mono hqs s3.tps) ncm hq (by (first | lia | omega))
      have k4 : ∀ b x, b ≠ m → H b = some x → upd (upd H2 c (.lst (cutV yA none (some (k : Int)) ++ cutV yA (some ((k : Int) + 1)) none))) m (.lst ((bs.map V.ref).set a (.ref c))) b = some x := fun b x ne e => by rw [upd_ne ne]; exact s3 _ _ e
      generalize upd (upd H2 c (.lst (cutV yA none (some (k : Int)) ++ cutV yA (some ((k : Int) + 1)) none))) m (.lst ((bs.map V.ref).set a (.ref c))) = H4 at ms4 k4 ⊢
      have hqr4 : H4 qr = some (.tup [.int r.1, .int r.2]) := k4 _ _ (fun e => by rw [e, hSS.1] at hqr; cases hqr) hqr
      have ho4 : o < (S.set a qs).length := by rw [List.length_set]; exact ho
      obtain ⟨cO4, yO4, pO4, atO4, hbO4, hpO4, hcO4, hPO4⟩ := ss_get ms4.ss ho4
      have lO4 := Paired.length hPO4
      have qO4 := totP_get hpO4
      have t4 := ms4.tot
      refine ⟨_, rfl, _, rfl, m, _, _, _, rfl, rfl, SqL.of ms4.ss.1, atO4, _, rfl, by show 1 ≤ sizeLine; decide, fun l hl => ?_⟩
      have g5 := same_new (o := .lst [.ref qr]) hl
      refine ⟨cO4, l, yO4, [.ref qr], rfl, rfl, g5 _ _ hcO4, upd_same, Nat.le_trans (m := 1000) (by simp; (first | lia | omega)) (by decide), fun e he => ?_⟩
      have g6 := same_new (o := .lst (yO4 ++ [.ref qr])) he
      have s6 := g5.trans g6
      have hP6 : PcsAt (upd (upd H4 l (.lst [.ref qr])) e (.lst (yO4 ++ [.ref qr]))) (yO4 ++ [.ref qr]) (pO4 ++ [r]) := Paired.snoc (PcsAt.mono hPO4 s6.tps) ⟨qr, rfl, s6 _ _ hqr4⟩
      refine ⟨e, pO4 ++ [r], rfl, ⟨_, upd_same, hP6⟩, by simp; (first | lia | omega), fun d H7 s7 hd ⟨zs, hz, hZ⟩ => ?_⟩
      have s67 := s6.trans s7
      have ms7 := ms4.same s67
      have ndm : d ≠ m := fun e' => by rw [e', (ms4.same s6).ss.1] at hd; cases hd
      have ixO4 : ixN ((bs.set a c).map V.ref).length (o : Int) = some o := Q7.ixN_nat (by rw [List.length_map, List.length_set]; (first | lia | omega))
      refine ⟨_, rfl, _, rfl, m, _, _, o, rfl, rfl, ms7.ss.1, ixO4, ?_⟩
      have lj := Fr.joinS_length (srt2 (pO4 ++ [r]))
      rw [(srt2_perm _).length_eq, List.length_append, List.length_singleton] at lj
      have ms8 := ms7.put (B' := 52) (i := o) hz hZ ndm hpO4 (by (first | lia | omega))
      refine ⟨_, rfl, rfl, false, by simp, iteF ?_⟩
      refine ⟨_, rfl, rfl, false, by simp, iteF (iteF ?_)⟩
      exact ⟨_, rfl, kont _ _ _ ⟨ms8.keep, ms8.ss, ms8.nb, by rw [ms8.len], ms8.tot⟩⟩
    refine ⟨_, rfl, rfl, _, rfl, ite2 (fun x => ?_) (fun x => ?_)⟩
    · -- 16
      have x' : wy = 16 := by have := of_decide_eq_true x; injection this
      subst x'
      refine ⟨_, rfl, _, rfl, m, _, _, _, rfl, rfl, SqL.of hSS.1, atA, cA, yA, rfl, .inl (SqL.of hcA), fun c hc => ?_⟩
      have g1 := same_new (o := .lst yA) hc
      have ncm : c ≠ m := fun e => by rw [e, hSS.1] at hc; cases hc
      have ms1 := ms0.same g1
      refine ⟨_, rfl, _, rfl, m, _, _, o, rfl, rfl, ms1.ss.1, ixO, ?_⟩
      have ms2 := ms1.put (B' := 52) (i := o) upd_same (PcsAt.mono hPA g1.tps) ncm hpO (by (first | lia | omega))
      refine ⟨_, rfl, rfl, false, by simp, iteF (iteF ?_)⟩
      exact ⟨_, rfl, kont _ _ _ ms2⟩
    refine ⟨_, rfl, rfl, _, rfl, ite2 (fun u => ?_) (fun u => ?_)⟩
    · -- 17
      refine ⟨_, rfl, _, rfl, m, _, _, _, rfl, rfl, SqL.of hSS.1, atO, Nat.zero_le _, fun n1 hn1 => ?_⟩
      have t1 := same_new (o := .lst []) hn1
      have h1 : upd H n1 (.lst []) n1 = some (.lst []) := upd_same
      generalize upd H n1 (.lst []) = H1 at t1 h1 ⊢
      refine ⟨shD pO, shD [], sh_dat ⟨yO, t1 _ _ hcO, PcsAt.mono hPO t1.tps⟩, sh_dat ⟨[], h1, .nil⟩, shD_can _, shD_can _, Nat.le_trans (shD_depth _) (by decide), _, rfl, ite2 (fun _ => ?_) (fun _ => ?_)⟩
      · refine ⟨_, rfl, _, rfl, m, _, _, _, rfl, rfl, SqL.of (t1 _ _ hSS.1), atO, _, rfl, _, rfl, cO, _, rfl, SqL.of (t1 _ _ hcO), fun c1 hc1 => ?_⟩
        have g1 := same_new (o := .lst (cutV yO none (some (k : Int)))) hc1
        have hc11 : upd H1 c1 (.lst (cutV yO none (some (k : Int)))) c1 = some (.lst (cutV yO none (some (k : Int)))) := upd_same
        have s1 := t1.trans g1
        generalize upd H1 c1 (.lst (cutV yO none (some (k : Int)))) = H2 at g1 hc11 s1 ⊢
        refine ⟨_, rfl, _, rfl, m, _, _, _, rfl, rfl, SqL.of (s1 _ _ hSS.1), atO, _, rfl, _, _, rfl, rfl, _, rfl, cO, _, rfl, SqL.of (s1 _ _ hcO), fun c2 hc2 => ?_⟩
        have g2 := same_new (o := .lst (cutV yO (some ((k : Int) + 1)) none)) hc2
        have hc22 : upd H2 c2 (.lst (cutV yO (some ((k : Int) + 1)) none)) c2 = some (.lst (cutV yO (some ((k : Int) + 1)) none)) := upd_same
        have hc12 := g2 _ _ hc11
        have s2 := s1.trans g2
        generalize upd H2 c2 (.lst (cutV yO (some ((k : Int) + 1)) none)) = H3 at g2 hc22 hc12 s2 ⊢
        have l1 := cutV_length yO none (some (k : Int))
        have l2 := cutV_length yO (some ((k : Int) + 1)) none
        refine ⟨c1, c2, _, _, rfl, rfl, hc12, hc22, Nat.le_trans (m := 1000) (by (first | lia | omega)) (by decide), fun c hc => ?_⟩
        have g3 := same_new (o := .lst (cutV yO none (some (k : Int)) ++ cutV yO (some ((k : Int) + 1)) none)) hc
        have s3 := s2.trans g3
        have hc3 : upd H3 c (.lst (cutV yO none (some (k : Int)) ++ cutV yO (some ((k : Int) + 1)) none)) c = some (.lst (cutV yO none (some (k : Int)) ++ cutV yO (some ((k : Int) + 1)) none)) := upd_same
        obtain ⟨qs, hqs, lqs⟩ := pcs_cut2 hPO k
        have lq' := Paired.length hqs
        generalize cutV yO none (some (k : Int)) ++ cutV yO (some ((k : Int) + 1)) none = us at g3 s3 hc3 hqs lq' ⊢
        generalize upd H3 c (.lst us) = H4 at g3 s3 hc3 ⊢
        refine ⟨_, rfl, _, rfl, by show 1 ≤ sizeLine; decide, fun l hl => ?_⟩
        have g5 := same_new (o := .lst [.ref qr]) hl
        refine ⟨c, l, us, [.ref qr], rfl, rfl, g5 _ _ hc3, upd_same, Nat.le_trans (m := 1000) (by simp; (first | lia | omega)) (by decide), fun e he => ?_⟩
        have g6 := same_new (o := .lst (us ++ [.ref qr])) he
        have s6 := (s3.trans g5).trans g6
        have hP6 : PcsAt (upd (upd H4 l (.lst [.ref qr])) e (.lst (us ++ [.ref qr]))) (us ++ [.ref qr]) (qs ++ [r]) := Paired.snoc (PcsAt.mono hqs s6.tps) ⟨qr, rfl, s6 _ _ hqr⟩
        have he6 : upd (upd H4 l (.lst [.ref qr])) e (.lst (us ++ [.ref qr])) e = some (.lst (us ++ [.ref qr])) := upd_same
        generalize upd (upd H4 l (.lst [.ref qr])) e (.lst (us ++ [.ref qr])) = H6 at s6 hP6 he6 ⊢
        refine ⟨e, _, (qs ++ [r]).map pc2, 2, rfl, SqL.of he6, pcs_tups hP6, fun t ht => ?_, by decide, by simp; (first | lia | omega), fun d hd => ?_⟩
        · obtain ⟨x, _, rfl⟩ := List.mem_map.mp ht; rfl
        have g7 := same_new (o := .lst (Srt.out (Srt.rank ((qs ++ [r]).map pc2)) .non (us ++ [.ref qr]))) hd
        have hd7 : PcsAt H6 (Srt.out (Srt.rank ((qs ++ [r]).map pc2)) .non (us ++ [.ref qr])) (srt2 (qs ++ [r])) := Srt.out_paired _ hP6
        have ms7 := ms0.same (s6.trans g7)
        have ndm : d ≠ m := fun e' => by rw [e', (ms0.same s6).ss.1] at hd; cases hd
        refine ⟨_, rfl, _, rfl, m, _, _, o, rfl, rfl, ms7.ss.1, ixO, ?_⟩
        have ms8 := ms7.put (B' := 52) (i := o) upd_same (PcsAt.mono hd7 g7.tps) ndm hpO (by rw [(srt2_perm _).length_eq]; simp; (first | lia | omega))
        exact ⟨_, rfl, kont _ _ _ ms8⟩
      · have ms1 := ms0.same t1
        exact ⟨_, rfl, kont _ _ _ ⟨ms1.keep, ms1.ss, ms1.nb, ms1.len, by (first | lia | omega)⟩⟩
    · refine iteF ?_
      exact ⟨_, rfl, kont _ _ _ ⟨ms0.keep, ms0.ss, ms0.nb, ms0.len, by (first | lia | omega)⟩⟩
end
end K7

set_option Elab.async false
set_option linter.all false
set_option maxRecDepth 100000
set_option maxHeartbeats 4000000
namespace K7
open PySem L2
open Q7 (take_snoc totP min_eq)
noncomputable abbrev sExc : Stmt := Q7.top 20
section
variable {P : Program} {w : World} {K : PySem.W.Frag} {mg : Str → Option Value} {base : Heap}
seal L2.PSs L2.PS L2.PE L2.PA L2.PT L2.PW
noncomputable def spExc : Sp := fun vs H Q _ => ∃ (a : Addr) (as : List Addr) (S : List (List Pc)) (i j : Nat) (c : Int) (pi pj : List Pc), vs = [.ref a, .int i, .int j, .int c] ∧ SsAt H a as S ∧ S.length ≤ 5 ∧ totP S ≤ 24 ∧ (∀ s ∈ S, ∀ p ∈ s, p.1 < p.2) ∧ S[i]? = some pi ∧ S[j]? = some pj ∧ pi ≠ [] ∧ pj ≠ [] ∧ i ≠ j ∧
  ∀ p bs S' H', Same H H' → SsAt H' p bs S' → S'.length = S.length → totP S' ≤ 40 → Q (.ref p) H'
theorem scExc : FnScope ["_law_shares", "_law_at", "_law_other", "_law_cell", "_law_one", "_law_two", "_law_many", "_law_made"] ["_law_shares", "_law_at", "_law_other", "_law_cell"] (defScope sExc) := ⟨rfl, rfl, rfl, by decide +kernel, rfl, by decide +kernel, by decide +kernel⟩
theorem ok_exc {f f1 f2 : Addr} {fd fd1 fd2 : FuncData} (F : FunG K "_law_begins_exchanged" "_law_begins_exchanged" sExc f fd .none) (T : Pl mg) (D1 : Df K mg "_law_joined" sJoin ["_law_share"] f1 fd1) (D2 : Df K mg "_law_with_length" sWith ["_law_pieces"] f2 fd2) : FnOk P w K mg base CX0 2 f fd ["_law_shares", "_law_at", "_law_other", "_law_cell"] spExc := by
  have G1 : FnOk P w K mg base CX0 1 f1 fd1 ["_law_share"] spJoin := ok_join D1.fn T
  have G2 : FnOk P w K mg base CX0 1 f2 fd2 ["_law_pieces"] spWith := ok_with D2.fn T
  refine F.ok scExc (fun vs H Q E h => ?_) (fun cdv A outer s H vs Q E hr h => ?_)
  · obtain ⟨_, _, _, _, _, _, _, _, rfl, _⟩ := h; rfl
  · obtain ⟨a, as, S, i, j, c, pi, pj, rfl, hSS, h5, h24, hpos, hi, hj, ni, nj, hij, k⟩ := h
    refine ⟨_, pss_cons (ps_set (i := 4) scExc.nd rfl (Or.inl rfl) (pe_ix ix_list (pe_ix ix_list (pv 0) (pv 1) (fun _ _ => rfl)) (pe_op op_mod (pv 3) (pe_callB call_len_seq rfl T.len PySem.boot_len (pa_cons (pe_ix ix_list (pv 0) (pv 1) (fun _ _ => rfl)) pa_nil))) (fun _ _ => rfl)))
      (pss_cons (ps_set (i := 5) scExc.nd rfl (Or.inl rfl) (pe_ix ix_list (pe_ix ix_list (pv 0) (pv 2) (fun _ _ => rfl)) (pe_op op_mod (pe_op op_fdiv (pv 3) pe_int) (pe_callB call_len_seq rfl T.len PySem.boot_len (pa_cons (pe_ix ix_list (pv 0) (pv 2) (fun _ _ => rfl)) pa_nil))) (fun _ _ => rfl)))
      (pss_cons (ps_set (i := 6) scExc.nd rfl (Or.inl rfl) (pe_op op_add pe_int (pe_op op_mod (pe_op op_fdiv (pv 3) pe_int) (pe_callB (call_min2 rfl) rfl T.min PyProof.Rows.boot_min (pa_cons (pe_op op_sub (pe_ix ix_tup (pv 4) pe_int (fun _ _ => rfl)) (pe_ix ix_tup (pv 4) pe_int (fun _ _ => rfl))) (pa_cons (pe_op op_sub (pe_ix ix_tup (pv 5) pe_int (fun _ _ => rfl)) (pe_ix ix_tup (pv 5) pe_int (fun _ _ => rfl))) pa_nil))))))
      (pss_cons (ps_comp (i := 7) (Nc := ["_law_share"]) (fv := [none]) ⟨rfl, by decide +kernel, rfl, by decide +kernel, trivial, by decide +kernel, rfl, trivial⟩ scExc.nd rfl (Or.inl rfl) rfl (pi_list (pv 0))
          (fun _ _ _ _ _ => pg_name (i := 0) (show (["_law_share"] : List Str).Nodup by decide +kernel) rfl (Or.inl rfl)) (fun _ _ _ _ _ => pif_nil) (fun _ _ _ _ _ => pe_callTy (call_listK (K := K) rfl) rfl T.list PyProof.Rows.boot_list (pa_cons (pv 0) pa_nil)))
      (pss_cons (ps_expr (pe_bm PySem.F.plainAttrs_list PySem.F.slot_list_remove PySem.F.type_list_remove (mt_remove hr.units) (pe_ix ix_list (pv 7) (pv 1) (fun _ _ => rfl)) (pa_cons (pv 4) pa_nil)))
      (pss_cons (ps_expr (pe_bm PySem.F.plainAttrs_list PySem.F.slot_list_remove PySem.F.type_list_remove (mt_remove hr.units) (pe_ix ix_list (pv 7) (pv 2) (fun _ _ => rfl)) (pa_cons (pv 5) pa_nil)))
      (pss_cons (ps_asg (pe_op op_cat (pe_ix ix_list (pv 7) (pv 1) (fun _ _ => rfl)) (pe_lst (pa_cons (pe_tup (pa_cons (pe_ix ix_tup (pv 5) pe_int (fun _ _ => rfl)) (pa_cons (pe_op op_add (pe_ix ix_tup (pv 5) pe_int (fun _ _ => rfl)) (pv 6)) pa_nil))) (pa_cons (pe_tup (pa_cons (pe_op op_add (pe_ix ix_tup (pv 4) pe_int (fun _ _ => rfl)) (pv 6)) (pa_cons (pe_ix ix_tup (pv 4) pe_int (fun _ _ => rfl)) pa_nil))) pa_nil)))) (pg_sub (pv 7) (pv 1) set_list))
      (pss_cons (ps_asg (pe_op op_cat (pe_ix ix_list (pv 7) (pv 2) (fun _ _ => rfl)) (pe_lst (pa_cons (pe_tup (pa_cons (pe_ix ix_tup (pv 4) pe_int (fun _ _ => rfl)) (pa_cons (pe_op op_add (pe_ix ix_tup (pv 4) pe_int (fun _ _ => rfl)) (pv 6)) pa_nil))) (pa_cons (pe_tup (pa_cons (pe_op op_add (pe_ix ix_tup (pv 5) pe_int (fun _ _ => rfl)) (pv 6)) (pa_cons (pe_ix ix_tup (pv 5) pe_int (fun _ _ => rfl)) pa_nil))) pa_nil)))) (pg_sub (pv 7) (pv 2) set_list))
      (pss_cons (ps_asg (pe_call G1 hr rfl D1.gl D1.fn.kp D1.bd .nil pass0 (pa_cons (pe_call G2 hr rfl D2.gl D2.fn.kp D2.bd .nil pass0 (pa_cons (pe_ix ix_list (pv 7) (pv 1) (fun _ _ => rfl)) pa_nil)) pa_nil)) (pg_sub (pv 7) (pv 1) set_list))
      (pss_cons (ps_asg (pe_call G1 hr rfl D1.gl D1.fn.kp D1.bd .nil pass0 (pa_cons (pe_call G2 hr rfl D2.gl D2.fn.kp D2.bd .nil pass0 (pa_cons (pe_ix ix_list (pv 7) (pv 2) (fun _ _ => rfl)) pa_nil)) pa_nil)) (pg_sub (pv 7) (pv 2) set_list))
      (pss_one (ps_ret (pv 7)))))))))))), ?_⟩
    have hil : i < S.length := (List.getElem?_eq_some_iff.mp hi).1
    have hjl : j < S.length := (List.getElem?_eq_some_iff.mp hj).1
    have lb := Paired.length hSS.2
    obtain ⟨cI, yI, pI, atI', hbI, hpI, hcI, hPI⟩ := ss_get hSS hil
    obtain ⟨cJ, yJ, pJ, atJ', hbJ, hpJ, hcJ, hPJ⟩ := ss_get hSS hjl
    rw [hi] at hpI
    cases hpI
    rw [hj] at hpJ
    cases hpJ
    have lI := Paired.length hPI
    have lJ := Paired.length hPJ
    have pI0 : 0 < pi.length := List.length_pos_iff.mpr ni
    have pJ0 : 0 < pj.length := List.length_pos_iff.mpr nj
    have yI0 : (0 : Int) < yI.length := by (first | lia | omega)
    have yJ0 : (0 : Int) < yJ.length := by (first | lia | omega)
    -- one
    obtain ⟨v1, hv1m, hat1⟩ := atI_in (L := yI) (i := c % (yI.length : Int)) (Int.emod_nonneg _ (by (first | lia | omega))) (Int.emod_lt_of_pos _ yI0)
    obtain ⟨k1, hk1, ek1⟩ := List.getElem_of_mem hv1m
    obtain ⟨r1, hr1, q1, rfl, hq1⟩ := paired_get hPI (i := k1) (v := v1) (by rw [List.getElem?_eq_getElem hk1, ek1])
    have pos1 := hpos pi (List.mem_of_getElem? hi) r1 (List.mem_of_getElem? hr1)
    obtain ⟨v2, hv2m, hat2⟩ := atI_in (L := yJ) (i := c / 3 % (yJ.length : Int)) (Int.emod_nonneg _ (by (first | lia | omega))) (Int.emod_lt_of_pos _ yJ0)
    obtain ⟨k2, hk2, ek2⟩ := List.getElem_of_mem hv2m
    obtain ⟨r2, hr2, q2, rfl, hq2⟩ := paired_get hPJ (i := k2) (v := v2) (by rw [List.getElem?_eq_getElem hk2, ek2])
    have pos2 := hpos pj (List.mem_of_getElem? hj) r2 (List.mem_of_getElem? hr2)
    refine ⟨_, rfl, _, rfl, a, _, _, _, rfl, rfl, SqL.of hSS.1, atI', _, rfl, _, rfl, _, rfl, a, _, _, _, rfl, rfl, SqL.of hSS.1, atI', cI, _, rfl, .inl (SqL.of hcI), _, _, rfl, rfl, yI0, cI, _, _, _, rfl, rfl, SqL.of hcI, hat1, ?_⟩
    refine ⟨_, rfl, _, rfl, a, _, _, _, rfl, rfl, SqL.of hSS.1, atJ', _, rfl, _, _, rfl, rfl, ⟨by decide, by decide⟩, _, rfl, _, rfl, a, _, _, _, rfl, rfl, SqL.of hSS.1, atJ', cJ, _, rfl, .inl (SqL.of hcJ), _, _, rfl, rfl, yJ0, cJ, _, _, _, rfl, rfl, SqL.of hcJ, hat2, ?_⟩
    refine ⟨_, rfl, _, _, rfl, rfl, ⟨by decide, by decide⟩, _, rfl, q1, _, 1, _, rfl, rfl, SqT.of hq1, rfl, _, rfl, q1, _, 0, _, rfl, rfl, SqT.of hq1, rfl, _, _, rfl, rfl, _, rfl, q2, _, 1, _, rfl, rfl, SqT.of hq2, rfl, _, rfl, q2, _, 0, _, rfl, rfl, SqT.of hq2, rfl, _, _, rfl, rfl, _, _, rfl, _, _, rfl, rfl, ?_, _, _, rfl, rfl, ?_⟩
    · show 0 < (if r2.2 - r2.1 < r1.2 - r1.1 then r2.2 - r2.1 else r1.2 - r1.1)
      split <;> (first | lia | omega)
    refine ⟨_, rfl, a, rfl, ⟨_, SqL.of hSS.1⟩, fun p hp => ?_⟩
    refine comp_copy2 (K := K) ⟨_, rfl⟩ hSS (by (first | lia | omega)) hp fun bs H1 s1 hbs nd hfr hcp => ?_
    have lbs := Paired.length hbs.2
    have hbi : bs[i]? = some (bs[i]'(by (first | lia | omega))) := List.getElem?_eq_getElem (by (first | lia | omega))
    have hbj : bs[j]? = some (bs[j]'(by (first | lia | omega))) := List.getElem?_eq_getElem (by (first | lia | omega))
    have hdI := hcp i cI _ yI hbI hbi hcI
    have hdJ := hcp j cJ _ yJ hbJ hbj hcJ
    have nIJ : bs[i]'(by (first | lia | omega)) ≠ bs[j]'(by (first | lia | omega)) := fun e => hij ((List.getElem_inj nd).mp e)
    have fI := hfr _ (List.getElem_mem (show i < bs.length by (first | lia | omega)))
    have fJ := hfr _ (List.getElem_mem (show j < bs.length by (first | lia | omega)))
    have atI2 : atI (bs.map V.ref) (i : Int) = some (.ref (bs[i]'(by (first | lia | omega)))) := atI_nat (by rw [List.getElem?_map, hbi]; rfl)
    have atJ2 : atI (bs.map V.ref) (j : Int) = some (.ref (bs[j]'(by (first | lia | omega)))) := atI_nat (by rw [List.getElem?_map, hbj]; rfl)
    generalize bs[i]'(by (first | lia | omega)) = dI at hbi hdI nIJ fI atI2
    generalize bs[j]'(by (first | lia | omega)) = dJ at hbj hdJ nIJ fJ atJ2
    -- one is taken out
    refine ⟨_, rfl, _, rfl, p, _, _, _, rfl, rfl, SqL.of hbs.1, atI2, .inl ⟨rfl, _, SqL.of hdI⟩, _, rfl, dI, yI, .ref q1, pi, rfl, rfl, hdI, PcsAt.mono hPI s1.tps, hv1m, fun j1 hj1 => ?_⟩
    have tp1 := tps_lst (o := .lst (yI.eraseIdx j1)) hdI
    have hb2 : SsAt (upd H1 dI (.lst (yI.eraseIdx j1))) p bs (S.set i (pi.eraseIdx j1)) := ⟨by rw [upd_ne (Ne.symm fI.2)]; exact hbs.1, shs_set hdI (paired_erase j1 ((PcsAt.mono hPI s1.tps).mono tp1)) hbs.2 nd hbi⟩
    have s2 : Same H (upd H1 dI (.lst (yI.eraseIdx j1))) := s1.write fI.1
    have hdJ2 : upd H1 dI (.lst (yI.eraseIdx j1)) dJ = some (.lst yJ) := by rw [upd_ne (Ne.symm nIJ)]; exact hdJ
    generalize upd H1 dI (.lst (yI.eraseIdx j1)) = H2 at hb2 s2 hdJ2 ⊢
    -- two is taken out
    refine ⟨_, rfl, _, rfl, p, _, _, _, rfl, rfl, SqL.of hb2.1, atJ2, .inl ⟨rfl, _, SqL.of hdJ2⟩, _, rfl, dJ, yJ, .ref q2, pj, rfl, rfl, hdJ2, PcsAt.mono hPJ s2.tps, hv2m, fun j2 hj2 => ?_⟩
    have tp2 := tps_lst (o := .lst (yJ.eraseIdx j2)) hdJ2
    have hb3 : SsAt (upd H2 dJ (.lst (yJ.eraseIdx j2))) p bs ((S.set i (pi.eraseIdx j1)).set j (pj.eraseIdx j2)) := ⟨by rw [upd_ne (Ne.symm fJ.2)]; exact hb2.1, shs_set hdJ2 (paired_erase j2 ((PcsAt.mono hPJ s2.tps).mono tp2)) hb2.2 nd hbj⟩
    have s3 : Same H (upd H2 dJ (.lst (yJ.eraseIdx j2))) := s2.write fJ.1
    have t3 : totP ((S.set i (pi.eraseIdx j1)).set j (pj.eraseIdx j2)) ≤ 24 := by
      have e1 := totP_set (ps := pi.eraseIdx j1) hi
      have e2 := totP_set (S := S.set i (pi.eraseIdx j1)) (i := j) (q := pj) (ps := pj.eraseIdx j2) (by rw [List.getElem?_set_ne hij]; exact hj)
      have := List.length_eraseIdx_le pi j1
      have := List.length_eraseIdx_le pj j2
      (first | lia | omega)
    have ms3 : MS H (upd H2 dJ (.lst (yJ.eraseIdx j2))) p bs ((S.set i (pi.eraseIdx j1)).set j (pj.eraseIdx j2)) S.length 24 := ⟨fun b o _ e => s3 _ _ e, hb3, fun d hd => (hfr d hd).2, by rw [List.length_set, List.length_set], t3⟩
    generalize upd H2 dJ (.lst (yJ.eraseIdx j2)) = H3 at ms3
    generalize (S.set i (pi.eraseIdx j1)).set j (pj.eraseIdx j2) = S3 at ms3
    clear hb2 s2 hdJ2 hb3 s3 t3 tp2 tp1
    have sm : ∀ {H' : Hp} {bs' : List Addr} {S' : List (List Pc)} {B : Nat}, MS H H' p bs' S' S.length B → Same H H' := fun m b o e => m.keep b o (ne_of_none e hp) e
    -- two pieces more
    obtain ⟨cms3, yms3, pms3, atms3, hbms3, hpms3, hcms3, hPms3⟩ := ss_get (i := i) ms3.ss (by rw [ms3.len]; assumption)
    have lms3 := Paired.length hPms3
    have tms3 := totP_get hpms3
    have ums3 := ms3.tot
    have wms3 := Paired.length ms3.ss.2
    have sms3 := sm ms3
    refine ⟨_, rfl, _, rfl, p, _, _, _, rfl, rfl, SqL.of ms3.ss.1, atms3, _, rfl, q2, _, 0, _, rfl, rfl, SqT.of (sms3 _ _ hq2), rfl, _, rfl, q2, _, 0, _, rfl, rfl, SqT.of (sms3 _ _ hq2), rfl, _, rfl, _, _, rfl, rfl, by show 2 ≤ sizeLine; decide, fun Z hZ => ?_⟩
    have gams3 := same_new (o := .tup [.int r2.1, .int (r2.1 + (1 + c / 6 % (if r2.2 - r2.1 < r1.2 - r1.1 then r2.2 - r2.1 else r1.2 - r1.1)))]) hZ
    have hZa : upd H3 Z (.tup [.int r2.1, .int (r2.1 + (1 + c / 6 % (if r2.2 - r2.1 < r1.2 - r1.1 then r2.2 - r2.1 else r1.2 - r1.1)))]) Z = some (.tup [.int r2.1, .int (r2.1 + (1 + c / 6 % (if r2.2 - r2.1 < r1.2 - r1.1 then r2.2 - r2.1 else r1.2 - r1.1)))]) := upd_same
    generalize upd H3 Z (.tup [.int r2.1, .int (r2.1 + (1 + c / 6 % (if r2.2 - r2.1 < r1.2 - r1.1 then r2.2 - r2.1 else r1.2 - r1.1)))]) = Hams3 at gams3 hZa ⊢
    refine ⟨_, rfl, q1, _, 0, _, rfl, rfl, SqT.of (gams3 _ _ (sms3 _ _ hq1)), rfl, _, rfl, _, _, rfl, rfl, _, rfl, q1, _, 1, _, rfl, rfl, SqT.of (gams3 _ _ (sms3 _ _ hq1)), rfl, by show 2 ≤ sizeLine; decide, fun Y hY => ⟨by show 2 ≤ sizeLine; decide, fun l hl => ?_⟩⟩
    have gbms3 := same_new (o := .tup [.int (r1.1 + (1 + c / 6 % (if r2.2 - r2.1 < r1.2 - r1.1 then r2.2 - r2.1 else r1.2 - r1.1))), .int r1.2]) hY
    have gcms3 := same_new (o := .lst [.ref Z, .ref Y]) hl
    have scms3 := (gams3.trans gbms3).trans gcms3
    have hZc := gcms3 _ _ (gbms3 _ _ hZa)
    have hYc := gcms3 _ _ (upd_same (H := Hams3) (a := Y) (o := .tup [.int (r1.1 + (1 + c / 6 % (if r2.2 - r2.1 < r1.2 - r1.1 then r2.2 - r2.1 else r1.2 - r1.1))), .int r1.2]))
    have hlc : upd (upd Hams3 Y (.tup [.int (r1.1 + (1 + c / 6 % (if r2.2 - r2.1 < r1.2 - r1.1 then r2.2 - r2.1 else r1.2 - r1.1))), .int r1.2])) l (.lst [.ref Z, .ref Y]) l = some (.lst [.ref Z, .ref Y]) := upd_same
    generalize upd (upd Hams3 Y (.tup [.int (r1.1 + (1 + c / 6 % (if r2.2 - r2.1 < r1.2 - r1.1 then r2.2 - r2.1 else r1.2 - r1.1))), .int r1.2])) l (.lst [.ref Z, .ref Y]) = Hcms3 at scms3 hZc hYc hlc ⊢
    refine ⟨cms3, l, yms3, [.ref Z, .ref Y], rfl, rfl, scms3 _ _ hcms3, hlc, Nat.le_trans (m := 1000) (by simp; (first | lia | omega)) (by decide), fun e he => ?_⟩
    have gdms3 := same_new (o := .lst (yms3 ++ [.ref Z, .ref Y])) he
    have sdms3 := scms3.trans gdms3
    have hPdms3 : PcsAt (upd Hcms3 e (.lst (yms3 ++ [.ref Z, .ref Y]))) (yms3 ++ [.ref Z, .ref Y]) (pms3 ++ [(r2.1, r2.1 + (1 + c / 6 % (if r2.2 - r2.1 < r1.2 - r1.1 then r2.2 - r2.1 else r1.2 - r1.1))), (r1.1 + (1 + c / 6 % (if r2.2 - r2.1 < r1.2 - r1.1 then r2.2 - r2.1 else r1.2 - r1.1)), r1.2)]) := paired_app (PcsAt.mono hPms3 sdms3.tps) (.cons ⟨Z, rfl, gdms3 _ _ hZc⟩ (.cons ⟨Y, rfl, gdms3 _ _ hYc⟩ .nil))
    have mdms3 := ms3.same sdms3
    have nems3 : e ≠ p := fun z => by rw [z, (ms3.same scms3).ss.1] at he; cases he
    have ixms3 : ixN (bs.map V.ref).length (i : Int) = some i := Q7.ixN_nat (by rw [List.length_map, wms3, ms3.len]; assumption)
    refine ⟨_, rfl, _, rfl, p, _, _, i, rfl, rfl, mdms3.ss.1, ixms3, ?_⟩
    have ms4 := mdms3.put (B' := 26) (i := i) upd_same hPdms3 nems3 hpms3 (by simp; (first | lia | omega))
    generalize upd (upd Hcms3 e (.lst (yms3 ++ [.ref Z, .ref Y]))) p (.lst ((bs.map V.ref).set i (.ref e))) = Hms4 at ms4 ⊢
    generalize S3.set i (pms3 ++ [(r2.1, r2.1 + (1 + c / 6 % (if r2.2 - r2.1 < r1.2 - r1.1 then r2.2 - r2.1 else r1.2 - r1.1))), (r1.1 + (1 + c / 6 % (if r2.2 - r2.1 < r1.2 - r1.1 then r2.2 - r2.1 else r1.2 - r1.1)), r1.2)]) = Sms4 at ms4
    generalize bs.set i e = bsms4 at ms4
    -- two pieces more
    obtain ⟨cms4, yms4, pms4, atms4, hbms4, hpms4, hcms4, hPms4⟩ := ss_get (i := j) ms4.ss (by rw [ms4.len]; assumption)
    have lms4 := Paired.length hPms4
    have tms4 := totP_get hpms4
    have ums4 := ms4.tot
    have wms4 := Paired.length ms4.ss.2
    have sms4 := sm ms4
    refine ⟨_, rfl, _, rfl, p, _, _, _, rfl, rfl, SqL.of ms4.ss.1, atms4, _, rfl, q1, _, 0, _, rfl, rfl, SqT.of (sms4 _ _ hq1), rfl, _, rfl, q1, _, 0, _, rfl, rfl, SqT.of (sms4 _ _ hq1), rfl, _, rfl, _, _, rfl, rfl, by show 2 ≤ sizeLine; decide, fun Z hZ => ?_⟩
    have gams4 := same_new (o := .tup [.int r1.1, .int (r1.1 + (1 + c / 6 % (if r2.2 - r2.1 < r1.2 - r1.1 then r2.2 - r2.1 else r1.2 - r1.1)))]) hZ
    have hZa : upd Hms4 Z (.tup [.int r1.1, .int (r1.1 + (1 + c / 6 % (if r2.2 - r2.1 < r1.2 - r1.1 then r2.2 - r2.1 else r1.2 - r1.1)))]) Z = some (.tup [.int r1.1, .int (r1.1 + (1 + c / 6 % (if r2.2 - r2.1 < r1.2 - r1.1 then r2.2 - r2.1 else r1.2 - r1.1)))]) := upd_same
    generalize upd Hms4 Z (.tup [.int r1.1, .int (r1.1 + (1 + c / 6 % (if r2.2 - r2.1 < r1.2 - r1.1 then r2.2 - r2.1 else r1.2 - r1.1)))]) = Hams4 at gams4 hZa ⊢
    refine ⟨_, rfl, q2, _, 0, _, rfl, rfl, SqT.of (gams4 _ _ (sms4 _ _ hq2)), rfl, _, rfl, _, _, rfl, rfl, _, rfl, q2, _, 1, _, rfl, rfl, SqT.of (gams4 _ _ (sms4 _ _ hq2)), rfl, by show 2 ≤ sizeLine; decide, fun Y hY => ⟨by show 2 ≤ sizeLine; decide, fun l hl => ?_⟩⟩
    have gbms4 := same_new (o := .tup [.int (r2.1 + (1 + c / 6 % (if r2.2 - r2.1 < r1.2 - r1.1 then r2.2 - r2.1 else r1.2 - r1.1))), .int r2.2]) hY
    have gcms4 := same_new (o := .lst [.ref Z, .ref Y]) hl
    have scms4 := (gams4.trans gbms4).trans gcms4
    have hZc := gcms4 _ _ (gbms4 _ _ hZa)
    have hYc := gcms4 _ _ (upd_same (H := Hams4) (a := Y) (o := .tup [.int (r2.1 + (1 + c / 6 % (if r2.2 - r2.1 < r1.2 - r1.1 then r2.2 - r2.1 else r1.2 - r1.1))), .int r2.2]))
    have hlc : upd (upd Hams4 Y (.tup [.int (r2.1 + (1 + c / 6 % (if r2.2 - r2.1 < r1.2 - r1.1 then r2.2 - r2.1 else r1.2 - r1.1))), .int r2.2])) l (.lst [.ref Z, .ref Y]) l = some (.lst [.ref Z, .ref Y]) := upd_same
    generalize upd (upd Hams4 Y (.tup [.int (r2.1 + (1 + c / 6 % (if r2.2 - r2.1 < r1.2 - r1.1 then r2.2 - r2.1 else r1.2 - r1.1))), .int r2.2])) l (.lst [.ref Z, .ref Y]) = Hcms4 at scms4 hZc hYc hlc ⊢
    refine ⟨cms4, l, yms4, [.ref Z, .ref Y], rfl, rfl, scms4 _ _ hcms4, hlc, Nat.le_trans (m := 1000) (by simp; (first | lia | omega)) (by decide), fun e he => ?_⟩
    have gdms4 := same_new (o := .lst (yms4 ++ [.ref Z, .ref Y])) he
    have sdms4 := scms4.trans gdms4
    have hPdms4 : PcsAt (upd Hcms4 e (.lst (yms4 ++ [.ref Z, .ref Y]))) (yms4 ++ [.ref Z, .ref Y]) (pms4 ++ [(r1.1, r1.1 + (1 + c / 6 % (if r2.2 - r2.1 < r1.2 - r1.1 then r2.2 - r2.1 else r1.2 - r1.1))), (r2.1 + (1 + c / 6 % (if r2.2 - r2.1 < r1.2 - r1.1 then r2.2 - r2.1 else r1.2 - r1.1)), r2.2)]) := paired_app (PcsAt.mono hPms4 sdms4.tps) (.cons ⟨Z, rfl, gdms4 _ _ hZc⟩ (.cons ⟨Y, rfl, gdms4 _ _ hYc⟩ .nil))
    have mdms4 := ms4.same sdms4
    have nems4 : e ≠ p := fun z => by rw [z, (ms4.same scms4).ss.1] at he; cases he
    have ixms4 : ixN (bsms4.map V.ref).length (j : Int) = some j := Q7.ixN_nat (by rw [List.length_map, wms4, ms4.len]; assumption)
    refine ⟨_, rfl, _, rfl, p, _, _, j, rfl, rfl, mdms4.ss.1, ixms4, ?_⟩
    have ms5 := mdms4.put (B' := 28) (i := j) upd_same hPdms4 nems4 hpms4 (by simp; (first | lia | omega))
    generalize upd (upd Hcms4 e (.lst (yms4 ++ [.ref Z, .ref Y]))) p (.lst ((bsms4.map V.ref).set j (.ref e))) = Hms5 at ms5 ⊢
    generalize Sms4.set j (pms4 ++ [(r1.1, r1.1 + (1 + c / 6 % (if r2.2 - r2.1 < r1.2 - r1.1 then r2.2 - r2.1 else r1.2 - r1.1))), (r2.1 + (1 + c / 6 % (if r2.2 - r2.1 < r1.2 - r1.1 then r2.2 - r2.1 else r1.2 - r1.1)), r2.2)]) = Sms5 at ms5
    generalize bsms4.set j e = bsms5 at ms5
    -- put together
    obtain ⟨cms5, yms5, pms5, atms5, hbms5, hpms5, hcms5, hPms5⟩ := ss_get (i := i) ms5.ss (by rw [ms5.len]; assumption)
    have lms5 := Paired.length hPms5
    have tms5 := totP_get hpms5
    have ums5 := ms5.tot
    have wms5 := Paired.length ms5.ss.2
    refine ⟨_, rfl, _, rfl, p, _, _, _, rfl, rfl, SqL.of ms5.ss.1, atms5, cms5, pms5, rfl, ⟨yms5, hcms5, hPms5⟩, by (first | lia | omega), fun ww qs Hwms5 swms5 hw hSw lq => ?_⟩
    refine ⟨ww, qs, rfl, hSw, by (first | lia | omega), fun d Hdms5 sdms5 hd ⟨zs, hz, hZ⟩ => ?_⟩
    have sems5 := swms5.trans sdms5
    have mdms5 := ms5.same sems5
    have nems5 : d ≠ p := fun z => by rw [z, (ms5.same swms5).ss.1] at hd; cases hd
    have ixms5 : ixN (bsms5.map V.ref).length (i : Int) = some i := Q7.ixN_nat (by rw [List.length_map, wms5, ms5.len]; assumption)
    refine ⟨_, rfl, _, rfl, p, _, _, i, rfl, rfl, mdms5.ss.1, ixms5, ?_⟩
    have ljms5 := Fr.joinS_length (srt2 qs)
    rw [(srt2_perm _).length_eq] at ljms5
    have ms6 := mdms5.put (B' := 28) (i := i) hz hZ nems5 hpms5 (by (first | lia | omega))
    generalize upd Hdms5 p (.lst ((bsms5.map V.ref).set i (.ref d))) = Hms6 at ms6 ⊢
    generalize Sms5.set i (Fr.joinS (srt2 qs)) = Sms6 at ms6
    generalize bsms5.set i d = bsms6 at ms6
    -- put together
    obtain ⟨cms6, yms6, pms6, atms6, hbms6, hpms6, hcms6, hPms6⟩ := ss_get (i := j) ms6.ss (by rw [ms6.len]; assumption)
    have lms6 := Paired.length hPms6
    have tms6 := totP_get hpms6
    have ums6 := ms6.tot
    have wms6 := Paired.length ms6.ss.2
    refine ⟨_, rfl, _, rfl, p, _, _, _, rfl, rfl, SqL.of ms6.ss.1, atms6, cms6, pms6, rfl, ⟨yms6, hcms6, hPms6⟩, by (first | lia | omega), fun ww qs Hwms6 swms6 hw hSw lq => ?_⟩
    refine ⟨ww, qs, rfl, hSw, by (first | lia | omega), fun d Hdms6 sdms6 hd ⟨zs, hz, hZ⟩ => ?_⟩
    have sems6 := swms6.trans sdms6
    have mdms6 := ms6.same sems6
    have nems6 : d ≠ p := fun z => by rw [z, (ms6.same swms6).ss.1] at hd; cases hd
    have ixms6 : ixN (bsms6.map V.ref).length (j : Int) = some j := Q7.ixN_nat (by rw [List.length_map, wms6, ms6.len]; assumption)
    refine ⟨_, rfl, _, rfl, p, _, _, j, rfl, rfl, mdms6.ss.1, ixms6, ?_⟩
    have ljms6 := Fr.joinS_length (srt2 qs)
    rw [(srt2_perm _).length_eq] at ljms6
    have ms7 := mdms6.put (B' := 28) (i := j) hz hZ nems6 hpms6 (by (first | lia | omega))
    generalize upd Hdms6 p (.lst ((bsms6.map V.ref).set j (.ref d))) = Hms7 at ms7 ⊢
    generalize Sms6.set j (Fr.joinS (srt2 qs)) = Sms7 at ms7
    generalize bsms6.set j d = bsms7 at ms7
    exact ⟨_, rfl, k p bsms7 Sms7 _ (sm ms7) ms7.ss ms7.len (by have := ms7.tot; (first | lia | omega))⟩
end
end K7

set_option Elab.async false
set_option linter.all false
set_option maxRecDepth 100000
set_option maxHeartbeats 4000000
namespace K7
open PySem L2
open Q7 (take_snoc totP min_eq)
noncomputable abbrev sSpo : Stmt := Q7.top 25
theorem totP_rev (S : List (List Pc)) : totP S.reverse = totP S := by unfold totP; rw [List.map_reverse, List.sum_reverse]
theorem totP_app (A B : List (List Pc)) : totP (A ++ B) = totP A + totP B := by unfold totP; rw [List.map_append, List.sum_append]
theorem totP_drop : ∀ (S : List (List Pc)) (n : Nat), totP (S.drop n) ≤ totP S
  | _, 0 => Nat.le_refl _
  | [], n + 1 => Nat.le_refl _
  | s :: S, n + 1 => by
    have := totP_drop S n
    simp [totP] at this ⊢; (first | lia | omega)
theorem and2 {b : Bool} {Z Y : Prop} (hz : b = true → Y → Z) (hy : Y) : if b = true then Z else Y := ite2 (fun z => hz z hy) (fun _ => hy)
theorem ss_cut {H : Hp} {bs : List Addr} {S : List (List Pc)} (h : ShsAt H bs S) (lo hi : Option Int) : ∃ bs' S', cutV (bs.map V.ref) lo hi = bs'.map V.ref ∧ ShsAt H bs' S' ∧ S'.length ≤ S.length ∧ totP S' ≤ totP S := by
  unfold cutV
  refine ⟨(bs.drop (HT.sIx (bs.map V.ref).length 0 lo)).take (HT.sIx (bs.map V.ref).length (bs.map V.ref).length hi - HT.sIx (bs.map V.ref).length 0 lo), (S.drop (HT.sIx (bs.map V.ref).length 0 lo)).take (HT.sIx (bs.map V.ref).length (bs.map V.ref).length hi - HT.sIx (bs.map V.ref).length 0 lo), by rw [List.map_take, List.map_drop], paired_take _ (paired_drop _ h), ?_, ?_⟩
  · rw [List.length_take, List.length_drop]; (first | lia | omega)
  · exact Nat.le_trans (Q7.totP_take _) (totP_drop _ _)
theorem sh_ne {ps : List Pc} (z : ¬ ((if false = true then !PyData.eqv (shD ps) (shD []) else PyData.eqv (shD ps) (shD [])) = true)) : ps ≠ [] := fun e => by
  subst e
  exact z rfl
section
variable {P : Program} {w : World} {K : PySem.W.Frag} {mg : Str → Option Value} {base : Heap}
seal L2.PSs L2.PS L2.PE L2.PA L2.PT L2.PW
noncomputable def spSpo (K : PySem.W.Frag) : Sp := fun vs H Q _ => ∃ (a s : Addr) (as : List Addr) (S : List (List Pc)) (sz : Int) (ns : List Int), vs = [.ref a, .int sz, .ref s] ∧ SqL K H s (ns.map V.int) ∧ SsAt H a as S ∧ 1 ≤ S.length ∧ S.length ≤ 5 ∧ totP S ≤ 24 ∧ (∀ s ∈ S, ∀ p ∈ s, p.1 < p.2) ∧
  ∀ p bs S' H', Same H H' → SsAt H' p bs S' → S'.length ≤ 10 → totP S' ≤ 52 → Q (.ref p) H'
theorem scSpo : FnScope ["_law_shares", "_law_size", "_law_script", "_law_way_here", "_law_far", "_law_made", "_law_at", "_law_other", "_law_k", "_law_edge", "_law_begin", "_law_turned"] ["_law_shares", "_law_size", "_law_script"] (defScope sSpo) := ⟨rfl, rfl, rfl, by decide +kernel, rfl, by decide +kernel, by decide +kernel⟩
theorem ok_spo {f f1 f2 f3 f4 f5 f6 f7 f8 : Addr} {fd fd1 fd2 fd3 fd4 fd5 fd6 fd7 fd8 : FuncData} (F : FunG K "_law_spoilt" "_law_spoilt" sSpo f fd .none) (T : Pl mg) (D1 : Df K mg "_law_cell_at" sCell ["_law_script", "_law_k"] f1 fd1) (D2 : Df K mg "_law_way" sWay ["_law_cell"] f2 fd2)
    (D3 : Df K mg "_law_given" sGiv ["_law_made", "_law_at", "_law_other", "_law_way_here", "_law_k"] f3 fd3) (D4 : Df K mg "_law_joined" sJoin ["_law_share"] f4 fd4) (D5 : Df K mg "_law_moved_edge" sEdge ["_law_shares", "_law_edge"] f5 fd5)
    (D6 : Df K mg "_law_begins_exchanged" sExc ["_law_shares", "_law_at", "_law_other", "_law_cell"] f6 fd6) (D7 : Df K mg "_law_with_length" sWith ["_law_pieces"] f7 fd7) (D8 : Df K mg "_law_piece_spoilt" sPSp ["_law_piece", "_law_way_here", "_law_cell"] f8 fd8) :
    FnOk P w K mg base CX0 3 f fd ["_law_shares", "_law_size", "_law_script"] (spSpo K) := by
  have G1 : FnOk P w K mg base CX0 1 f1 fd1 ["_law_script", "_law_k"] (spCell K) := ok_cell D1.fn T
  have G2 : FnOk P w K mg base CX0 1 f2 fd2 ["_law_cell"] spWay := ok_way D2.fn T
  have G3 : FnOk P w K mg base CX0 2 f3 fd3 ["_law_made", "_law_at", "_law_other", "_law_way_here", "_law_k"] spGiv := ok_giv D3.fn T D4
  have G5 : FnOk P w K mg base CX0 1 f5 fd5 ["_law_shares", "_law_edge"] spEdge := ok_edge D5.fn T
  have G6 : FnOk P w K mg base CX0 2 f6 fd6 ["_law_shares", "_law_at", "_law_other", "_law_cell"] spExc := ok_exc D6.fn T D4 D7
  have G8 : FnOk P w K mg base CX0 1 f8 fd8 ["_law_piece", "_law_way_here", "_law_cell"] spPSp := ok_psp D8.fn T
  refine F.ok scSpo (fun vs H Q E h => ?_) (fun cdv A outer s H vs Q E hr h => ?_)
  · obtain ⟨_, _, _, _, _, _, rfl, _⟩ := h; rfl
  · obtain ⟨a, sc, as, S, sz, ns, rfl, hN, hSS, h1, h5, h24, hpos, k⟩ := h
    have r1 : Room 1 (A.deeper (PyProof.Rows.envOfC "_law_spoilt" (defScope sSpo) s.heap.objs.size f cdv)) := hr.mono (by decide)
    refine ⟨_, pss_cons (ps_set (i := 3) scSpo.nd rfl (Or.inl rfl) (pe_call G2 r1 rfl D2.gl D2.fn.kp D2.bd .nil pass0 (pa_cons (pe_call G1 r1 rfl D1.gl D1.fn.kp D1.bd .nil pass0 (pa_cons (pv 2) (pa_cons pe_int pa_nil))) pa_nil)))
      (pss_cons (ps_set (i := 4) scSpo.nd rfl (Or.inl rfl) (pe_call G1 r1 rfl D1.gl D1.fn.kp D1.bd .nil pass0 (pa_cons (pv 2) (pa_cons pe_int pa_nil))))
      (pss_cons (ps_comp (i := 5) (Nc := ["_law_share"]) (fv := [none]) ⟨rfl, by decide +kernel, rfl, by decide +kernel, trivial, by decide +kernel, rfl, trivial⟩ scSpo.nd rfl (Or.inl rfl) rfl (pi_list (pv 0))
          (fun _ _ _ _ _ => pg_name (i := 0) (show (["_law_share"] : List Str).Nodup by decide +kernel) rfl (Or.inl rfl)) (fun _ _ _ _ _ => pif_nil) (fun _ _ _ _ _ => pe_callTy (call_listK (K := K) rfl) rfl T.list PyProof.Rows.boot_list (pa_cons (pv 0) pa_nil)))
      (pss_cons (ps_set (i := 6) scSpo.nd rfl (Or.inl rfl) (pe_op op_mod (pe_call G1 r1 rfl D1.gl D1.fn.kp D1.bd .nil pass0 (pa_cons (pv 2) (pa_cons pe_int pa_nil))) (pe_callB call_len_seq rfl T.len PySem.boot_len (pa_cons (pv 5) pa_nil))))
      (pss_cons (ps_set (i := 7) scSpo.nd rfl (Or.inl rfl) (pe_op op_mod (pe_op op_add (pv 6) pe_int) (pe_callB call_len_seq rfl T.len PySem.boot_len (pa_cons (pv 5) pa_nil))))
      (pss_cons (ps_if (pt_cmpR op_eq (pv 3) pe_int (nomark _)) (pss_one (ps_ret (pe_revS (pv 5) (po_some (pe_un un_neg pe_int))))) pss_nil)
      (pss_cons (ps_if (pt_cmpR op_eq (pv 3) pe_int (nomark _)) (pss_one (ps_ret (pe_op op_cat (pv 5) (pe_lst (pa_cons (pe_lst pa_nil) pa_nil))))) pss_nil)
      (pss_cons (ps_if (PW.pt (pw_and (pt_cmpR op_eq (pv 3) pe_int (nomark _)) (pw_and1 (pt_cmpR op_gt (pe_callB call_len_seq rfl T.len PySem.boot_len (pa_cons (pv 5) pa_nil)) pe_int (nomark _)))))
          (pss_one (ps_ret (pe_op op_cat (pe_slice sl_list (pv 5) po_none (po_some (pv 6))) (pe_slice sl_list (pv 5) (po_some (pe_op op_add (pv 6) pe_int)) po_none)))) pss_nil)
      (pss_cons (ps_if (PW.pt (pw_or (pt_cmpR (op_eqD hr.units) (pe_ix ix_list (pv 5) (pv 6) (fun _ _ => rfl)) (pe_lst pa_nil) (nomark _)) (pw_or1 (pt_cmpR (op_eqD hr.units) (pe_ix ix_list (pv 5) (pv 7) (fun _ _ => rfl)) (pe_lst pa_nil) (nomark _)))))
          (pss_one (ps_ret (pv 5))) pss_nil)
      (pss_cons (ps_set (i := 8) scSpo.nd rfl (Or.inl rfl) (pe_op op_mod (pe_call G1 r1 rfl D1.gl D1.fn.kp D1.bd .nil pass0 (pa_cons (pv 2) (pa_cons pe_int pa_nil))) (pe_callB call_len_seq rfl T.len PySem.boot_len (pa_cons (pe_ix ix_list (pv 5) (pv 6) (fun _ _ => rfl)) pa_nil))))
      (pss_cons (ps_if (pt_cmpR op_eq (pv 3) pe_int (nomark _)) (pss_one (ps_asg (pe_revS (pe_ix ix_list (pv 5) (pv 6) (fun _ _ => rfl)) (po_some (pe_un un_neg pe_int))) (pg_sub (pv 5) (pv 6) set_list)))
        (pss_one (ps_if (pt_cmpR op_in_seq (pv 3) (pe_lst (pa_cons pe_int (pa_cons pe_int (pa_cons pe_int (pa_cons pe_int pa_nil))))) (by with_unfolding_all rfl)) (pss_one (ps_set (i := 5) scSpo.nd rfl (Or.inl rfl) (pe_call G3 hr rfl D3.gl D3.fn.kp D3.bd .nil pass0 (pa_cons (pv 5) (pa_cons (pv 6) (pa_cons (pv 7) (pa_cons (pv 3) (pa_cons (pv 8) pa_nil))))))))
        (pss_one (ps_if (pt_cmpR op_eq (pv 3) pe_int (nomark _)) (pss_one (ps_set (i := 5) scSpo.nd rfl (Or.inl rfl) (pe_call G5 r1 rfl D5.gl D5.fn.kp D5.bd .nil pass0 (pa_cons (pv 5) (pa_cons (pe_ix ix_tup (pe_ix ix_list (pe_ix ix_list (pv 5) (pv 6) (fun _ _ => rfl)) (pv 8) (fun _ _ => rfl)) pe_int (fun _ _ => rfl)) pa_nil)))))
        (pss_one (ps_if (PW.pt (pw_and (pt_cmpR op_eq (pv 3) pe_int (nomark _)) (pw_and1 (pt_cmpR op_ne (pv 7) (pv 6) (nomark _))))) (pss_one (ps_set (i := 5) scSpo.nd rfl (Or.inl rfl) (pe_call G6 hr rfl D6.gl D6.fn.kp D6.bd .nil pass0 (pa_cons (pv 5) (pa_cons (pv 6) (pa_cons (pv 7) (pa_cons (pv 4) pa_nil)))))))
        (pss_one (ps_if (pt_cmpR op_eq (pv 3) pe_int (nomark _)) (pss_cons (ps_set (i := 9) scSpo.nd rfl (Or.inl rfl) (pe_ix ix_tup (pe_ix ix_list (pe_ix ix_list (pv 5) (pv 7) (fun _ _ => rfl)) (pe_op op_mod (pv 4) (pe_callB call_len_seq rfl T.len PySem.boot_len (pa_cons (pe_ix ix_list (pv 5) (pv 7) (fun _ _ => rfl)) pa_nil))) (fun _ _ => rfl)) (pe_op op_mod (pe_op op_fdiv (pv 4) pe_int) pe_int) (fun _ _ => rfl)))
            (pss_one (ps_asg (pe_callB call_sortedT rfl T.sorted PyProof.Rows.boot_sorted (pa_cons (pe_op op_cat (pe_ix ix_list (pv 5) (pv 6) (fun _ _ => rfl)) (pe_lst (pa_cons (pe_tup (pa_cons (pv 9) (pa_cons (pv 9) pa_nil))) pa_nil))) pa_nil)) (pg_sub (pv 5) (pv 6) set_list))))
        (pss_one (ps_if (pt_cmpR op_eq (pv 3) pe_int (nomark _)) (pss_cons (ps_set (i := 10) scSpo.nd rfl (Or.inl rfl) (pe_op op_add (pv 1) (pe_op op_mod (pv 4) pe_int)))
            (pss_one (ps_asg (pe_op op_cat (pe_ix ix_list (pv 5) (pv 6) (fun _ _ => rfl)) (pe_lst (pa_cons (pe_tup (pa_cons (pv 10) (pa_cons (pe_op op_add (pe_op op_add (pv 10) pe_int) (pe_op op_mod (pe_op op_fdiv (pv 4) pe_int) pe_int)) pa_nil))) pa_nil))) (pg_sub (pv 5) (pv 6) set_list))))
        (pss_one (ps_if (pt_cmpR op_eq (pv 3) pe_int (nomark _)) (pss_one (ps_asg (pe_op op_cat (pe_lst (pa_cons (pe_tup (pa_cons (pe_op op_sub (pe_un un_neg pe_int) (pe_op op_mod (pv 4) pe_int)) (pa_cons (pe_op op_sub (pe_un un_neg pe_int) (pe_op op_mod (pv 4) pe_int)) pa_nil))) pa_nil)) (pe_ix ix_list (pv 5) (pv 6) (fun _ _ => rfl))) (pg_sub (pv 5) (pv 6) set_list)))
          (pss_cons (ps_set (i := 11) scSpo.nd rfl (Or.inl rfl) (pe_call G8 r1 rfl D8.gl D8.fn.kp D8.bd .nil pass0 (pa_cons (pe_ix ix_list (pe_ix ix_list (pv 5) (pv 6) (fun _ _ => rfl)) (pv 8) (fun _ _ => rfl)) (pa_cons (pv 3) (pa_cons (pv 4) pa_nil)))))
            (pss_one (ps_asg (pe_op op_cat (pe_op op_cat (pe_slice sl_list (pe_ix ix_list (pv 5) (pv 6) (fun _ _ => rfl)) po_none (po_some (pv 8))) (pv 11)) (pe_slice sl_list (pe_ix ix_list (pv 5) (pv 6) (fun _ _ => rfl)) (po_some (pe_op op_add (pv 8) pe_int)) po_none)) (pg_sub (pv 5) (pv 6) set_list)))))))))))))))))
      (pss_one (ps_ret (pv 5))))))))))))), ?_⟩
    -- the way, how far
    refine ⟨_, rfl, sc, ns, 1, rfl, hN, by decide, _, rfl, fun wy H1 s1 => ?_⟩
    refine ⟨_, rfl, sc, ns, 4, rfl, s1.seq hN, by decide, ?_⟩
    generalize cellN ns 4 = far
    refine ⟨_, rfl, a, rfl, ⟨_, SqL.of (s1 _ _ hSS.1)⟩, fun p hp => ?_⟩
    refine comp_copy (K := K) ⟨_, rfl⟩ (SsAt.mono hSS s1) (by (first | lia | omega)) hp fun bs H2 s2 hbs nd hfr => ?_
    have s2' := s1.trans s2
    have hpH : H p = none := s1.free hp
    have hl := Paired.length hbs.2
    have hL : (bs.map V.ref).length = S.length := by rw [List.length_map]; exact hl
    have hL0 : (0 : Int) < ((bs.map V.ref).length : Int) := by (first | lia | omega)
    have ms : MS H H2 p bs S S.length 24 := ⟨fun b o _ e => s2' _ _ e, hbs, fun d hd => (hfr d hd).2, rfl, h24⟩
    have sm : ∀ {H' : Hp} {bs' : List Addr} {S' : List (List Pc)} {B : Nat}, MS H H' p bs' S' S.length B → Same H H' := fun m b o e => m.keep b o (ne_of_none e hpH) e
    have fin : ∀ {H' : Hp} {bs' : List Addr} {S' : List (List Pc)} {B : Nat}, MS H H' p bs' S' S.length B → B ≤ 52 → Q (.ref p) H' := fun m hB => k p _ _ _ (sm m) m.ss (by rw [m.len]; (first | lia | omega)) (by have := m.tot; (first | lia | omega))
    -- at, other
    refine ⟨_, rfl, sc, ns, 2, rfl, s2'.seq hN, by decide, _, rfl, p, _, rfl, .inl (SqL.of hbs.1), _, _, rfl, rfl, hL0, ?_⟩
    obtain ⟨ia, hia⟩ : ∃ n : Nat, cellN ns 2 % ((bs.map V.ref).length : Int) = n := ⟨_, (Int.toNat_of_nonneg (Int.emod_nonneg _ (by (first | lia | omega)))).symm⟩
    have hiaL : ia < S.length := by have := Int.emod_lt_of_pos (cellN ns 2) hL0; (first | lia | omega)
    have e6 : some (some (V.int (cellN ns 2 % ((bs.map V.ref).length : Int)))) = some (some (V.int (ia : Int))) := by rw [hia]
    refine ⟨V.int ia, e6, _, _, rfl, rfl, _, rfl, p, _, rfl, .inl (SqL.of hbs.1), _, _, rfl, rfl, hL0, ?_⟩
    obtain ⟨io, hio⟩ : ∃ n : Nat, ((ia : Int) + 1) % ((bs.map V.ref).length : Int) = n := ⟨_, (Int.toNat_of_nonneg (Int.emod_nonneg _ (by (first | lia | omega)))).symm⟩
    have hioL : io < S.length := by have := Int.emod_lt_of_pos ((ia : Int) + 1) hL0; (first | lia | omega)
    have e7 : some (some (V.int (((ia : Int) + 1) % ((bs.map V.ref).length : Int)))) = some (some (V.int (io : Int))) := by rw [hio]
    have ixA : ixN (bs.map V.ref).length (ia : Int) = some ia := Q7.ixN_nat (by (first | lia | omega))
    obtain ⟨cA, yA, pA, atA, hbA, hpA, hcA, hPA⟩ := ss_get hbs hiaL
    obtain ⟨cO, yO, pO, atO, hbO, hpO, hcO, hPO⟩ := ss_get hbs hioL
    have lA := Paired.length hPA
    have lO := Paired.length hPO
    have tA := totP_get hpA
    have tO := totP_get hpO
    -- 0
    refine ⟨_, rfl, rfl, _, rfl, ite2 (fun z => ?_) (fun z => ?_)⟩
    · refine ⟨_, rfl, _, rfl, _, rfl, rfl, p, _, rfl, SqL.of hbs.1, fun c hc => ?_⟩
      have g := same_new (o := .lst (bs.map V.ref).reverse) hc
      exact k c bs.reverse S.reverse _ (s2'.trans g) ⟨by rw [upd_same, List.map_reverse], paired_rev (ShsAt.mono hbs.2 g)⟩ (by rw [List.length_reverse]; (first | lia | omega)) (by rw [totP_rev]; (first | lia | omega))
    -- 1
    refine ⟨_, rfl, rfl, _, rfl, ite2 (fun z => ?_) (fun z => ?_)⟩
    · refine ⟨_, rfl, Nat.zero_le _, fun n1 hn1 => ⟨by show 1 ≤ sizeLine; decide, fun n2 hn2 => ?_⟩⟩
      have g1 := same_new (o := .lst []) hn1
      have g2 := same_new (o := .lst [.ref n1]) hn2
      have h1' := g2 _ _ (upd_same (H := H2) (a := n1) (o := .lst []))
      have g12 := g1.trans g2
      have h2' : upd (upd H2 n1 (.lst [])) n2 (.lst [.ref n1]) n2 = some (.lst [.ref n1]) := upd_same
      generalize upd (upd H2 n1 (.lst [])) n2 (.lst [.ref n1]) = H3 at h1' g12 h2' ⊢
      refine ⟨p, n2, _, [.ref n1], rfl, rfl, g12 _ _ hbs.1, h2', Nat.le_trans (m := 1000) (by rw [hL]; simp; (first | lia | omega)) (by decide), fun c hc => ?_⟩
      have g := same_new (o := .lst (bs.map V.ref ++ [.ref n1])) hc
      exact k c (bs ++ [n1]) (S ++ [[]]) _ ((s2'.trans g12).trans g) ⟨by rw [upd_same, List.map_append]; rfl, Paired.snoc (ShsAt.mono hbs.2 (g12.trans g)) ⟨[], g _ _ h1', .nil⟩⟩ (by rw [List.length_append]; simp; (first | lia | omega)) (by rw [totP_app]; simp [totP]; simp [totP] at h24; (first | lia | omega))
    -- 2
    refine ⟨_, rfl, rfl, _, rfl, and2 (fun z hY => ?_) ?_⟩
    · refine ⟨_, rfl, p, _, rfl, .inl (SqL.of hbs.1), _, _, rfl, rfl, _, rfl, ite2 (fun y => ?_) (fun y => hY)⟩
      refine ⟨_, rfl, _, e6, _, rfl, p, _, rfl, SqL.of hbs.1, fun n1 hn1 => ?_⟩
      have g1 := same_new (o := .lst (cutV (bs.map V.ref) none (some (ia : Int)))) hn1
      have h1' : upd H2 n1 (.lst (cutV (bs.map V.ref) none (some (ia : Int)))) n1 = some (.lst (cutV (bs.map V.ref) none (some (ia : Int)))) := upd_same
      generalize upd H2 n1 (.lst (cutV (bs.map V.ref) none (some (ia : Int)))) = H3 at g1 h1' ⊢
      refine ⟨_, rfl, _, e6, _, _, rfl, rfl, _, rfl, p, _, rfl, SqL.of (g1 _ _ hbs.1), fun n2 hn2 => ?_⟩
      have g2 := same_new (o := .lst (cutV (bs.map V.ref) (some ((ia : Int) + 1)) none)) hn2
      have h2' : upd H3 n2 (.lst (cutV (bs.map V.ref) (some ((ia : Int) + 1)) none)) n2 = some (.lst (cutV (bs.map V.ref) (some ((ia : Int) + 1)) none)) := upd_same
      have h1'' := g2 _ _ h1'
      have g12 := g1.trans g2
      generalize upd H3 n2 (.lst (cutV (bs.map V.ref) (some ((ia : Int) + 1)) none)) = H4 at g2 h2' h1'' g12 ⊢
      have l1 := cutV_length (bs.map V.ref) none (some (ia : Int))
      have l2 := cutV_length (bs.map V.ref) (some ((ia : Int) + 1)) none
      obtain ⟨b1, S1, eb1, hs1, ls1, ts1⟩ := ss_cut hbs.2 none (some (ia : Int))
      obtain ⟨b2, S2, eb2, hs2, ls2, ts2⟩ := ss_cut hbs.2 (some ((ia : Int) + 1)) none
      refine ⟨n1, n2, _, _, rfl, rfl, h1'', h2', Nat.le_trans (m := 1000) (by (first | lia | omega)) (by decide), fun c hc => ?_⟩
      have g := same_new (o := .lst (cutV (bs.map V.ref) none (some (ia : Int)) ++ cutV (bs.map V.ref) (some ((ia : Int) + 1)) none)) hc
      exact k c (b1 ++ b2) (S1 ++ S2) _ ((s2'.trans g12).trans g) ⟨by rw [upd_same, List.map_append, eb1, eb2], paired_app (ShsAt.mono hs1 (g12.trans g)) (ShsAt.mono hs2 (g12.trans g))⟩ (by rw [List.length_append]; (first | lia | omega)) (by rw [totP_app]; (first | lia | omega))
    refine iteF ?_
    -- an empty share
    refine ⟨_, rfl, _, e6, p, _, _, _, rfl, rfl, SqL.of hbs.1, atA, Nat.zero_le _, fun n1 hn1 => ?_⟩
    have t1 := same_new (o := .lst []) hn1
    have h1' : upd H2 n1 (.lst []) n1 = some (.lst []) := upd_same
    generalize upd H2 n1 (.lst []) = H3 at t1 h1' ⊢
    refine ⟨shD pA, shD [], sh_dat ⟨yA, t1 _ _ hcA, PcsAt.mono hPA t1.tps⟩, sh_dat ⟨[], h1', .nil⟩, shD_can _, shD_can _, Nat.le_trans (shD_depth _) (by decide), _, rfl, ite2 (fun z => iteT ?_) (fun z => ?_)⟩
    · exact ⟨_, rfl, fin (ms.same t1) (by decide)⟩
    have nA := sh_ne z
    refine ⟨_, rfl, _, e7, p, _, _, _, rfl, rfl, SqL.of (t1 _ _ hbs.1), atO, Nat.zero_le _, fun n2 hn2 => ?_⟩
    have t2 := same_new (o := .lst []) hn2
    have h2' : upd H3 n2 (.lst []) n2 = some (.lst []) := upd_same
    have s4 := t1.trans t2
    generalize upd H3 n2 (.lst []) = H4 at t2 h2' s4 ⊢
    refine ⟨shD pO, shD [], sh_dat ⟨yO, s4 _ _ hcO, PcsAt.mono hPO s4.tps⟩, sh_dat ⟨[], h2', .nil⟩, shD_can _, shD_can _, Nat.le_trans (shD_depth _) (by decide), _, rfl, ite2 (fun z => ?_) (fun z => ?_)⟩
    · exact ⟨_, rfl, fin (ms.same s4) (by decide)⟩
    have nO := sh_ne z
    have ms4 := ms.same s4
    have hN4 := (s2'.trans s4).seq hN
    have hcA4 := s4 _ _ hcA
    have hPA4 := PcsAt.mono hPA s4.tps
    have hcO4 := s4 _ _ hcO
    have hPO4 := PcsAt.mono hPO s4.tps
    have pA0 : 0 < pA.length := List.length_pos_iff.mpr nA
    have pO0 : 0 < pO.length := List.length_pos_iff.mpr nO
    have yA0 : (0 : Int) < yA.length := by (first | lia | omega)
    have yO0 : (0 : Int) < yO.length := by (first | lia | omega)
    clear t1 t2 h1' h2' hcA hPA hcO hPO s4 ms hbs
    -- k
    refine ⟨_, rfl, sc, ns, 3, rfl, hN4, by decide, _, rfl, _, e6, p, _, _, _, rfl, rfl, SqL.of ms4.ss.1, atA, cA, _, rfl, .inl (SqL.of hcA4), _, _, rfl, rfl, yA0, ?_⟩
    obtain ⟨ik, hik⟩ : ∃ n : Nat, cellN ns 3 % (yA.length : Int) = n := ⟨_, (Int.toNat_of_nonneg (Int.emod_nonneg _ (by (first | lia | omega)))).symm⟩
    have hikL : ik < yA.length := by have := Int.emod_lt_of_pos (cellN ns 3) yA0; (first | lia | omega)
    have e8 : some (some (V.int (cellN ns 3 % (yA.length : Int)))) = some (some (V.int (ik : Int))) := by rw [hik]
    obtain ⟨v, hv⟩ : ∃ v, yA[ik]? = some v := ⟨yA[ik], List.getElem?_eq_getElem hikL⟩
    obtain ⟨r, hr1, qr, rfl, hqr⟩ := paired_get hPA4 hv
    have posr := hpos pA (List.mem_of_getElem? hpA) r (List.mem_of_getElem? hr1)
    -- 10
    refine ⟨_, rfl, rfl, _, rfl, ite2 (fun z => ?_) (fun z => ?_)⟩
    · refine ⟨_, rfl, _, e6, p, _, _, _, rfl, rfl, SqL.of ms4.ss.1, atA, _, rfl, _, rfl, rfl, cA, _, rfl, SqL.of hcA4, fun c hc => ?_⟩
      have g := same_new (o := .lst yA.reverse) hc
      have ncm : c ≠ p := fun e => by rw [e, ms4.ss.1] at hc; cases hc
      have ms5 := ms4.same g
      refine ⟨_, rfl, _, e6, p, _, _, ia, rfl, rfl, ms5.ss.1, ixA, ?_⟩
      have ms6 := ms5.put (B' := 24) (i := ia) upd_same (paired_rev (PcsAt.mono hPA4 g.tps)) ncm hpA (by simp)
      exact ⟨_, rfl, fin ms6 (by decide)⟩
    -- 11, 12, 16, 17
    refine ⟨_, rfl, by show 4 ≤ sizeLine; decide, fun n3 hn3 => ?_⟩
    have g5 := same_new (o := .lst [.int 11, .int 12, .int 16, .int 17]) hn3
    have h5' : upd H4 n3 (.lst [.int 11, .int 12, .int 16, .int 17]) n3 = some (.lst [.int 11, .int 12, .int 16, .int 17]) := upd_same
    have ms5 := ms4.same g5
    have hcA5 := g5 _ _ hcA4
    have hPA5 := PcsAt.mono hPA4 g5.tps
    have hcO5 := g5 _ _ hcO4
    have hPO5 := PcsAt.mono hPO4 g5.tps
    have hqr5 := g5 _ _ hqr
    generalize upd H4 n3 (.lst [.int 11, .int 12, .int 16, .int 17]) = H5 at g5 h5' ms5 hcA5 hPA5 hcO5 hPO5 hqr5 ⊢
    refine ⟨n3, _, rfl, .inl (SqL.of h5'), rfl, rfl, _, rfl, ite2 (fun z => ?_) (fun z => ?_)⟩
    · refine ⟨_, rfl, _, e6, _, e7, _, rfl, _, e8, p, bs, S, ia, io, ik, wy, pA, rfl, ms5.ss, ms5.nb, hiaL, hioL, hpA, by (first | lia | omega), h24, fun bs' S' H' m => ⟨_, rfl, ?_⟩⟩
      exact k p bs' S' H' (fun b o e => m.keep b o (ne_of_none e hpH) (sm ms5 b o e)) m.ss (by rw [m.len]; (first | lia | omega)) (by have := m.tot; (first | lia | omega))
    clear hcA4 hPA4 hcO4 hPO4 hqr ms4 g5 h5'
    -- 13
    refine ⟨_, rfl, rfl, _, rfl, ite2 (fun z => ?_) (fun z => ?_)⟩
    · refine ⟨_, rfl, _, rfl, _, e6, p, _, _, _, rfl, rfl, SqL.of ms5.ss.1, atA, _, e8, cA, _, _, _, rfl, rfl, SqL.of hcA5, atI_nat hv, qr, _, 1, _, rfl, rfl, SqT.of hqr5, rfl, ?_⟩
      exact ⟨p, bs, S, _, rfl, ms5.ss, by (first | lia | omega), by (first | lia | omega), fun p' bs' S' H' s' h' hl' ht' => ⟨_, rfl, k p' bs' S' H' (fun b o e => s' _ _ (sm ms5 b o e)) h' (by (first | lia | omega)) (by (first | lia | omega))⟩⟩
    -- 14
    refine ⟨_, rfl, rfl, _, rfl, and2 (fun z hY => ?_) ?_⟩
    · refine ⟨_, e7, _, e6, rfl, _, rfl, ite2 (fun y => ?_) (fun y => hY)⟩
      have ne : ia ≠ io := by
        intro e
        subst e
        simp at y
      exact ⟨_, rfl, _, e6, _, e7, _, rfl, p, bs, S, ia, io, _, pA, pO, rfl, ms5.ss, h5, h24, hpos, hpA, hpO, nA, nO, ne, fun p' bs' S' H' s' h' hl' ht' => ⟨_, rfl, k p' bs' S' H' (fun b o e => s' _ _ (sm ms5 b o e)) h' (by (first | lia | omega)) (by (first | lia | omega))⟩⟩
    refine iteF ?_
    -- one more piece for the share at
    have more : ∀ {H6 : Hp} {c : Addr} {ys : List V} {ps : List Pc} {R : Hp → Prop}, MS H H6 p bs S S.length 24 → H6 c = some (.lst ys) → c ≠ p → PcsAt H6 ys ps → ps.length ≤ 2 * pA.length + 2 → (∀ H', Q (.ref p) H' → R H') → R (upd H6 p (.lst ((bs.map V.ref).set ia (.ref c)))) := fun m hc ncm hP hle hR => hR _ (fin (m.put (B' := 50) (i := ia) hc hP ncm hpA (by (first | lia | omega))) (by decide))
    -- 15
    refine ⟨_, rfl, rfl, _, rfl, ite2 (fun z => ?_) (fun z => ?_)⟩
    · obtain ⟨v2, hv2m, hat2⟩ := atI_in (L := yO) (i := far % (yO.length : Int)) (Int.emod_nonneg _ (by (first | lia | omega))) (Int.emod_lt_of_pos _ yO0)
      obtain ⟨k2, hk2, ek2⟩ := List.getElem_of_mem hv2m
      obtain ⟨r2, hr2, q2, rfl, hq2⟩ := paired_get hPO5 (i := k2) (v := v2) (by rw [List.getElem?_eq_getElem hk2, ek2])
      obtain ⟨v3, hv3m, hat3⟩ := atI_in (L := [V.int r2.1, V.int r2.2]) (i := far / 2 % 2) (by (first | lia | omega)) (by show far / 2 % 2 < 2; (first | lia | omega))
      obtain ⟨ed, rfl⟩ : ∃ e, v3 = V.int e := by
        simp at hv3m
        rcases hv3m with e | e
        · exact ⟨_, e⟩
        · exact ⟨_, e⟩
      refine ⟨_, rfl, _, e7, p, _, _, _, rfl, rfl, SqL.of ms5.ss.1, atO, _, rfl, _, rfl, _, e7, p, _, _, _, rfl, rfl, SqL.of ms5.ss.1, atO, cO, _, rfl, .inl (SqL.of hcO5), _, _, rfl, rfl, yO0, cO, _, _, _, rfl, rfl, SqL.of hcO5, hat2, _, rfl, _, _, rfl, rfl, ⟨by decide, by decide⟩, _, _, rfl, rfl, (by decide : (0 : Int) < 2), q2, _, _, _, rfl, rfl, SqT.of hq2, hat3, ?_⟩
      refine ⟨_, rfl, _, e6, p, _, _, _, rfl, rfl, SqL.of ms5.ss.1, atA, _, rfl, _, rfl, by show 2 ≤ sizeLine; decide, fun Z hZ => ?_⟩
      have ga := same_new (o := .tup [.int ed, .int ed]) hZ
      have hZa : upd H5 Z (.tup [.int ed, .int ed]) Z = some (.tup [.int ed, .int ed]) := upd_same
      generalize upd H5 Z (.tup [.int ed, .int ed]) = H6 at ga hZa ⊢
      refine ⟨by show 1 ≤ sizeLine; decide, fun l hl' => ?_⟩
      have gb := same_new (o := .lst [.ref Z]) hl'
      have hlb : upd H6 l (.lst [.ref Z]) l = some (.lst [.ref Z]) := upd_same
      have sb := ga.trans gb
      have hZb := gb _ _ hZa
      generalize upd H6 l (.lst [.ref Z]) = H7 at gb hlb sb hZb ⊢
      refine ⟨cA, l, yA, [.ref Z], rfl, rfl, sb _ _ hcA5, hlb, Nat.le_trans (m := 1000) (by simp; (first | lia | omega)) (by decide), fun c hc => ?_⟩
      have gc := same_new (o := .lst (yA ++ [.ref Z])) hc
      have scc := sb.trans gc
      have hP8 : PcsAt (upd H7 c (.lst (yA ++ [.ref Z]))) (yA ++ [.ref Z]) (pA ++ [(ed, ed)]) := Paired.snoc (PcsAt.mono hPA5 scc.tps) ⟨Z, rfl, gc _ _ hZb⟩
      have hc8 : upd H7 c (.lst (yA ++ [.ref Z])) c = some (.lst (yA ++ [.ref Z])) := upd_same
      generalize upd H7 c (.lst (yA ++ [.ref Z])) = H8 at gc scc hP8 hc8 ⊢
      refine ⟨c, _, (pA ++ [(ed, ed)]).map pc2, 2, rfl, SqL.of hc8, pcs_tups hP8, fun t ht => ?_, by decide, by simp; (first | lia | omega), fun d hd => ?_⟩
      · obtain ⟨x, _, rfl⟩ := List.mem_map.mp ht; rfl
      have gd := same_new (o := .lst (Srt.out (Srt.rank ((pA ++ [(ed, ed)]).map pc2)) .non (yA ++ [.ref Z]))) hd
      have hd9 : PcsAt H8 (Srt.out (Srt.rank ((pA ++ [(ed, ed)]).map pc2)) .non (yA ++ [.ref Z])) (srt2 (pA ++ [(ed, ed)])) := Srt.out_paired _ hP8
      have ms8 := ms5.same scc
      have ms9 := ms8.same gd
      have ncm : d ≠ p := fun e => by rw [e, ms8.ss.1] at hd; cases hd
      refine ⟨_, rfl, _, e6, p, _, _, ia, rfl, rfl, ms9.ss.1, ixA, ?_⟩
      exact more ms9 upd_same ncm (PcsAt.mono hd9 gd.tps) (by rw [(srt2_perm _).length_eq]; simp; (first | lia | omega)) fun H' q => ⟨_, rfl, q⟩
    -- 18
    refine ⟨_, rfl, rfl, _, rfl, ite2 (fun z => ?_) (fun z => ?_)⟩
    · refine ⟨_, rfl, _, rfl, _, _, rfl, rfl, (by decide : (0 : Int) < 3), _, _, rfl, rfl, ?_⟩
      refine ⟨_, rfl, _, e6, p, _, _, _, rfl, rfl, SqL.of ms5.ss.1, atA, _, rfl, _, rfl, _, _, rfl, rfl, _, rfl, _, _, rfl, rfl, ⟨by decide, by decide⟩, _, _, rfl, rfl, (by decide : (0 : Int) < 5), _, _, rfl, rfl, by show 2 ≤ sizeLine; decide, fun Z hZ => ?_⟩
      have ga := same_new (o := .tup [.int (sz + far % 3), .int (sz + far % 3 + 1 + far / 3 % 5)]) hZ
      have hZa : upd H5 Z (.tup [.int (sz + far % 3), .int (sz + far % 3 + 1 + far / 3 % 5)]) Z = some (.tup [.int (sz + far % 3), .int (sz + far % 3 + 1 + far / 3 % 5)]) := upd_same
      generalize upd H5 Z (.tup [.int (sz + far % 3), .int (sz + far % 3 + 1 + far / 3 % 5)]) = H6 at ga hZa ⊢
      refine ⟨by show 1 ≤ sizeLine; decide, fun l hl' => ?_⟩
      have gb := same_new (o := .lst [.ref Z]) hl'
      have hlb : upd H6 l (.lst [.ref Z]) l = some (.lst [.ref Z]) := upd_same
      have sb := ga.trans gb
      have hZb := gb _ _ hZa
      generalize upd H6 l (.lst [.ref Z]) = H7 at gb hlb sb hZb ⊢
      refine ⟨cA, l, yA, [.ref Z], rfl, rfl, sb _ _ hcA5, hlb, Nat.le_trans (m := 1000) (by simp; (first | lia | omega)) (by decide), fun c hc => ?_⟩
      have gc := same_new (o := .lst (yA ++ [.ref Z])) hc
      have ms7 := ms5.same sb
      have ncm : c ≠ p := fun e => by rw [e, ms7.ss.1] at hc; cases hc
      have ms8 := ms7.same gc
      refine ⟨_, rfl, _, e6, p, _, _, ia, rfl, rfl, ms8.ss.1, ixA, ?_⟩
      exact more (ps := pA ++ [(sz + far % 3, sz + far % 3 + 1 + far / 3 % 5)]) ms8 upd_same ncm (Paired.snoc (PcsAt.mono hPA5 (sb.trans gc).tps) ⟨Z, rfl, gc _ _ hZb⟩) (by simp; (first | lia | omega)) fun H' q => ⟨_, rfl, q⟩
    -- 19
    refine ⟨_, rfl, rfl, _, rfl, ite2 (fun z => ?_) (fun z => ?_)⟩
    · refine ⟨_, rfl, _, rfl, _, _, rfl, rfl, (by decide : (0 : Int) < 3), _, _, rfl, rfl, _, rfl, _, rfl, _, _, rfl, rfl, (by decide : (0 : Int) < 3), _, _, rfl, rfl, by show 2 ≤ sizeLine; decide, fun Z hZ => ?_⟩
      have ga := same_new (o := .tup [.int (-3 - far % 3), .int (-2 - far % 3)]) hZ
      have hZa : upd H5 Z (.tup [.int (-3 - far % 3), .int (-2 - far % 3)]) Z = some (.tup [.int (-3 - far % 3), .int (-2 - far % 3)]) := upd_same
      generalize upd H5 Z (.tup [.int (-3 - far % 3), .int (-2 - far % 3)]) = H6 at ga hZa ⊢
      refine ⟨by show 1 ≤ sizeLine; decide, fun l hl' => ?_⟩
      have gb := same_new (o := .lst [.ref Z]) hl'
      have hlb : upd H6 l (.lst [.ref Z]) l = some (.lst [.ref Z]) := upd_same
      have sb := ga.trans gb
      have hZb := gb _ _ hZa
      generalize upd H6 l (.lst [.ref Z]) = H7 at gb hlb sb hZb ⊢
      have ms7 := ms5.same sb
      refine ⟨_, rfl, _, e6, p, _, _, _, rfl, rfl, SqL.of ms7.ss.1, atA, l, cA, [.ref Z], yA, rfl, rfl, hlb, sb _ _ hcA5, Nat.le_trans (m := 1000) (by simp; (first | lia | omega)) (by decide), fun c hc => ?_⟩
      have gc := same_new (o := .lst ([.ref Z] ++ yA)) hc
      have ncm : c ≠ p := fun e => by rw [e, ms7.ss.1] at hc; cases hc
      have ms8 := ms7.same gc
      refine ⟨_, rfl, _, e6, p, _, _, ia, rfl, rfl, ms8.ss.1, ixA, ?_⟩
      exact more (ps := (-3 - far % 3, -2 - far % 3) :: pA) ms8 upd_same ncm (.cons ⟨Z, rfl, gc _ _ hZb⟩ (PcsAt.mono hPA5 (sb.trans gc).tps)) (by simp; (first | lia | omega)) fun H' q => ⟨_, rfl, q⟩
    -- a piece spoilt
    refine ⟨_, rfl, _, e6, p, _, _, _, rfl, rfl, SqL.of ms5.ss.1, atA, _, e8, cA, _, _, _, rfl, rfl, SqL.of hcA5, atI_nat hv, _, rfl, _, rfl, ?_⟩
    refine ⟨qr, r.1, r.2, wy, _, rfl, hqr5, posr, fun t ts H6 s6 ht ⟨zs, hz6, hZ6⟩ lts => ?_⟩
    have lz := Paired.length hZ6
    have ms6 := ms5.same s6
    have hcA6 := s6 _ _ hcA5
    have hPA6 := PcsAt.mono hPA5 s6.tps
    refine ⟨_, rfl, _, e6, p, _, _, _, rfl, rfl, SqL.of ms6.ss.1, atA, _, e8, _, rfl, cA, _, rfl, SqL.of hcA6, fun c1 hc1 => ?_⟩
    have g1 := same_new (o := .lst (cutV yA none (some (ik : Int)))) hc1
    have hc11 : upd H6 c1 (.lst (cutV yA none (some (ik : Int)))) c1 = some (.lst (cutV yA none (some (ik : Int)))) := upd_same
    generalize upd H6 c1 (.lst (cutV yA none (some (ik : Int)))) = H7 at g1 hc11 ⊢
    have l1 := cutV_length yA none (some (ik : Int))
    have l2 := cutV_length yA (some ((ik : Int) + 1)) none
    obtain ⟨qa, hqa, lqa⟩ := pcs_cut hPA6 none (some (ik : Int))
    obtain ⟨qb, hqb, lqb⟩ := pcs_cut hPA6 (some ((ik : Int) + 1)) none
    refine ⟨_, rfl, c1, t, _, zs, rfl, rfl, hc11, g1 _ _ hz6, Nat.le_trans (m := 1000) (by (first | lia | omega)) (by decide), fun c2 hc2 => ?_⟩
    have g2 := same_new (o := .lst (cutV yA none (some (ik : Int)) ++ zs)) hc2
    have hc22 : upd H7 c2 (.lst (cutV yA none (some (ik : Int)) ++ zs)) c2 = some (.lst (cutV yA none (some (ik : Int)) ++ zs)) := upd_same
    have s7 := g1.trans g2
    generalize upd H7 c2 (.lst (cutV yA none (some (ik : Int)) ++ zs)) = H8 at g2 hc22 s7 ⊢
    have ms8 := ms6.same s7
    refine ⟨_, rfl, _, e6, p, _, _, _, rfl, rfl, SqL.of ms8.ss.1, atA, _, e8, _, _, rfl, rfl, _, rfl, cA, _, rfl, SqL.of (s7 _ _ hcA6), fun c3 hc3 => ?_⟩
    have g3 := same_new (o := .lst (cutV yA (some ((ik : Int) + 1)) none)) hc3
    have hc33 : upd H8 c3 (.lst (cutV yA (some ((ik : Int) + 1)) none)) c3 = some (.lst (cutV yA (some ((ik : Int) + 1)) none)) := upd_same
    have hc23 := g3 _ _ hc22
    have s9 := s7.trans g3
    generalize upd H8 c3 (.lst (cutV yA (some ((ik : Int) + 1)) none)) = H9 at g3 hc33 hc23 s9 ⊢
    refine ⟨c2, c3, _, _, rfl, rfl, hc23, hc33, Nat.le_trans (m := 1000) (by rw [List.length_append]; (first | lia | omega)) (by decide), fun c hc => ?_⟩
    have g4 := same_new (o := .lst (cutV yA none (some (ik : Int)) ++ zs ++ cutV yA (some ((ik : Int) + 1)) none)) hc
    have sA := s9.trans g4
    have ms9 := ms6.same s9
    have ncm : c ≠ p := fun e => by rw [e, ms9.ss.1] at hc; cases hc
    have msA := ms9.same g4
    refine ⟨_, rfl, _, e6, p, _, _, ia, rfl, rfl, msA.ss.1, ixA, ?_⟩
    exact more msA upd_same ncm (paired_app (paired_app (PcsAt.mono hqa sA.tps) (PcsAt.mono hZ6 sA.tps)) (PcsAt.mono hqb sA.tps)) (by simp only [List.length_append]; (first | lia | omega)) fun H' q => ⟨_, rfl, q⟩
end
end K7

set_option Elab.async false
set_option linter.all false
set_option maxRecDepth 100000
set_option maxHeartbeats 4000000
namespace K7
open PySem L2
open Q7 (take_snoc totP min_eq)
noncomputable abbrev sLaw : Stmt := Q7.top 32
theorem fair_do {rs : List Bk.Rw} {S : List (List Pc)} (h : Q7.fairB rs S = true) : doB rs S = true := by
  have e : (S.all Fr.apart && Fr.cover (Bk.tot rs) 0 (Q7.srt3 (Fr.trips 0 S))) = doB rs S := Fr.dealt_eq (S := S) (Bk.tot rs) (Q7.srt3_perm (Fr.trips 0 S))
  unfold Q7.fairB at h
  rw [Bool.and_eq_true] at h
  rw [← e]; exact h.1
section
variable {P : Program} {w : World} {K : PySem.W.Frag} {mg : Str → Option Value} {base : Heap}
seal L2.PSs L2.PS L2.PE L2.PA L2.PT L2.PW
theorem kit_bool_bool : PySem.W.kitOne K (.type "bool") (.type "bool") = some true := rfl
noncomputable def spLaw (K : PySem.W.Frag) : Sp := fun vs H Q _ => ∃ (a : Addr) (ns : List Int), vs = [.ref a] ∧ SqL K H a (ns.map V.int) ∧ ns.length ≤ 63 ∧ ∀ H', Q (.bl true) H'
theorem scLaw : FnScope ["_law_script", "_law_heirs", "_law_bank", "_law_good", "_law_shares", "_law_due", "_law_handed", "_law_found", "_law_again"] ["_law_script"] (defScope sLaw) := ⟨rfl, rfl, rfl, by decide +kernel, rfl, by decide +kernel, by decide +kernel⟩
theorem ok_law {f fC fDe fSp fLF fF fFit fDO : Addr} {fd fdC fdDe fdSp fdLF fdF fdFit fdDO : FuncData} (F : FunG K "law" "law" sLaw f fd .none) (T : Pl mg)
    (DC : Df K mg "_law_cell_at" sCell ["_law_script", "_law_k"] fC fdC) (DDe : Df K mg "_law_dealt" sDealt ["_law_script", "_law_heirs"] fDe fdDe) (DSp : Df K mg "_law_spoilt" sSpo ["_law_shares", "_law_size", "_law_script"] fSp fdSp)
    (DLF : Df K mg "_law_fair" sLFair ["_law_bank", "_law_shares"] fLF fdLF) (DF : Df K mg "fair" Q7.sFair ["bank", "shares"] fF fdF) (DFit : Df K mg "_law_cuts_fit" sFit ["_law_bank", "_law_shares"] fFit fdFit) (DDO : Df K mg "_law_dealt_out" sDO ["_law_bank", "_law_shares"] fDO fdDO)
    (GDe : FnOk P w K mg base CX0 3 fDe fdDe ["_law_script", "_law_heirs"] (spDealt K)) (GSp : FnOk P w K mg base CX0 3 fSp fdSp ["_law_shares", "_law_size", "_law_script"] (spSpo K)) (GLF : FnOk P w K mg base CX0 3 fLF fdLF ["_law_bank", "_law_shares"] (spLFair K))
    (GF : FnOk P w K mg base CX0 2 fF fdF ["bank", "shares"] (Q7.spFair K)) (GFit : FnOk P w K mg base CX0 3 fFit fdFit ["_law_bank", "_law_shares"] (spFit K)) (GDO : FnOk P w K mg base CX0 2 fDO fdDO ["_law_bank", "_law_shares"] (spDO K)) :
    FnOk P w K mg base CX0 4 f fd ["_law_script"] (spLaw K) := by
  have GC : FnOk P w K mg base CX0 1 fC fdC ["_law_script", "_law_k"] (spCell K) := ok_cell DC.fn T
  refine F.ok scLaw (fun vs H Q E h => ?_) (fun cdv A outer s H vs Q E hr h => ?_)
  · obtain ⟨v, r, rfl, _⟩ := h; rfl
  · obtain ⟨sc, ns, rfl, hSc, hns, k⟩ := h
    have r2 : Room 2 (A.deeper (PyProof.Rows.envOfC "law" (defScope sLaw) s.heap.objs.size f cdv)) := hr.mono (by decide)
    have r1 : Room 1 (A.deeper (PyProof.Rows.envOfC "law" (defScope sLaw) s.heap.objs.size f cdv)) := hr.mono (by decide)
    refine ⟨_, pss_cons (ps_set (i := 1) scLaw.nd rfl (Or.inl rfl) (pe_op op_add pe_int (pe_op op_mod (pe_call GC r1 rfl DC.gl DC.fn.kp DC.bd .nil pass0 (pa_cons (pv 0) (pa_cons pe_int pa_nil))) pe_int)))
      (pss_cons (ps_asg (pe_call GDe hr rfl DDe.gl DDe.fn.kp DDe.bd .nil pass0 (pa_cons (pv 0) (pa_cons (pv 1) pa_nil))) (pg_tup rfl (pgs_cons (pg_name (i := 2) scLaw.nd rfl (Or.inl rfl)) (pgs_cons (pg_name (i := 3) scLaw.nd rfl (Or.inl rfl)) pgs_nil))))
      (pss_cons (ps_set (i := 4) scLaw.nd rfl (Or.inl rfl) (pe_call GSp hr rfl DSp.gl DSp.fn.kp DSp.bd .nil pass0 (pa_cons (pv 3) (pa_cons (pe_callB (call_sum rfl) rfl T.sum PyProof.Rows.boot_sum (pa_cons (pe_comp (Nc := ["_law_row"]) (fv := [none]) ⟨rfl, by decide +kernel, rfl, by decide +kernel, trivial, by decide +kernel, rfl, trivial⟩ rfl (pi_list (pv 2))
            (fun _ _ _ _ _ => pg_name (i := 0) (show (["_law_row"] : List Str).Nodup by decide +kernel) rfl (Or.inl rfl))
            (fun _ _ _ _ _ => pif_nil) (fun _ _ _ _ _ => pe_ix (ix_tupK (K := K) rfl) (pv 0) pe_int (fun _ _ => rfl))) pa_nil)) (pa_cons (pv 0) pa_nil)))))
      (pss_cons (ps_set (i := 5) scLaw.nd rfl (Or.inl rfl) (pe_call GLF hr rfl DLF.gl DLF.fn.kp DLF.bd .nil pass0 (pa_cons (pv 2) (pa_cons (pv 4) pa_nil))))
      (pss_cons (ps_set (i := 6) scLaw.nd rfl (Or.inl rfl) (pe_lst (pa_cons (pe_callTy call_list_of rfl T.list PyProof.Rows.boot_list (pa_cons (pv 2) pa_nil)) (pa_cons (pe_comp (Nc := ["_law_share"]) (fv := [none]) ⟨rfl, by decide +kernel, rfl, by decide +kernel, trivial, by decide +kernel, rfl, trivial⟩ rfl (pi_list (pv 4))
          (fun _ _ _ _ _ => pg_name (i := 0) (show (["_law_share"] : List Str).Nodup by decide +kernel) rfl (Or.inl rfl)) (fun _ _ _ _ _ => pif_nil) (fun _ _ _ _ _ => pe_callTy (call_listK (K := K) rfl) rfl T.list PyProof.Rows.boot_list (pa_cons (pv 0) pa_nil))) pa_nil))))
      (pss_cons (ps_set (i := 7) scLaw.nd rfl (Or.inl rfl) (pe_call GF r2 rfl DF.gl DF.fn.kp DF.bd .nil pass0 (pa_cons (pe_ix ix_list (pv 6) pe_int (fun _ _ => rfl)) (pa_cons (pe_ix ix_list (pv 6) pe_int (fun _ _ => rfl)) pa_nil))))
      (pss_cons (ps_if (PW.pt (pw_or (pt_not (pt_val (pe_callB call_isi rfl T.isi PyProof.Rows.boot_isinstance (pa_cons (pv 7) (pa_cons (pe_bltn (v := .ty "bool") rfl T.bool PyProof.Rows.boot_bool rfl) pa_nil)))))
          (pw_or (pt_cmpR op_ne (pv 7) (pv 5) (nomark _)) (pw_or1 (pt_cmpR (op_neD hr.units) (pv 6) (pe_lst (pa_cons (pv 2) (pa_cons (pv 4) pa_nil))) (nomark _)))))) pss_never pss_nil)
      (pss_cons (ps_if (pt_cmpR op_notB (pe_call GF r2 rfl DF.gl DF.fn.kp DF.bd .nil pass0 (pa_cons (pe_callTy call_list_of rfl T.list PyProof.Rows.boot_list (pa_cons (pv 2) pa_nil)) (pa_cons (pe_comp (Nc := ["_law_share"]) (fv := [none]) ⟨rfl, by decide +kernel, rfl, by decide +kernel, trivial, by decide +kernel, rfl, trivial⟩ rfl (pi_list (pv 3))
          (fun _ _ _ _ _ => pg_name (i := 0) (show (["_law_share"] : List Str).Nodup by decide +kernel) rfl (Or.inl rfl)) (fun _ _ _ _ _ => pif_nil) (fun _ _ _ _ _ => pe_callTy (call_listK (K := K) rfl) rfl T.list PyProof.Rows.boot_list (pa_cons (pv 0) pa_nil))) pa_nil))) pe_bl (nomark _)) pss_never pss_nil)
      (pss_cons (ps_if (pt_not (pt_val (pe_call GFit hr rfl DFit.gl DFit.fn.kp DFit.bd .nil pass0 (pa_cons (pv 2) (pa_cons (pv 3) pa_nil))))) pss_never pss_nil)
      (pss_cons (ps_if (PW.pt (pw_and (pt_val (pe_call GDO r2 rfl DDO.gl DDO.fn.kp DDO.bd .nil pass0 (pa_cons (pv 2) (pa_cons (pv 4) pa_nil)))) (pw_and1 (pt_not (pt_val (pe_call GFit hr rfl DFit.gl DFit.fn.kp DFit.bd .nil pass0 (pa_cons (pv 2) (pa_cons (pv 4) pa_nil)))))))) pss_never pss_nil)
      (pss_cons (ps_set (i := 8) scLaw.nd rfl (Or.inl rfl) (pe_call GF r2 rfl DF.gl DF.fn.kp DF.bd .nil pass0 (pa_cons (pe_ix ix_list (pv 6) pe_int (fun _ _ => rfl)) (pa_cons (pe_ix ix_list (pv 6) pe_int (fun _ _ => rfl)) pa_nil))))
      (pss_one (ps_ret (pe_and (pe_callB call_isi rfl T.isi PyProof.Rows.boot_isinstance (pa_cons (pv 8) (pa_cons (pe_bltn (v := .ty "bool") rfl T.bool PyProof.Rows.boot_bool rfl) pa_nil))) (pe_one (pe_cmpR op_eq (pv 8) (pv 5) (nomark _)))))))))))))))), ?_⟩
    -- how many heirs
    refine ⟨_, rfl, sc, ns, 0, rfl, hSc, by decide, _, _, rfl, rfl, (by decide : (0 : Int) < 5), _, _, rfl, rfl, ?_⟩
    obtain ⟨n, hn⟩ : ∃ n : Nat, (1 : Int) + cellN ns 0 % 5 = n := ⟨_, (Int.toNat_of_nonneg (by (first | lia | omega))).symm⟩
    have e1 : some (some (V.int (1 + cellN ns 0 % 5))) = some (some (V.int (n : Int))) := by rw [hn]
    refine ⟨_, rfl, _, e1, sc, ns, n, rfl, hSc, hns, by (first | lia | omega), by (first | lia | omega), fun t b g xs as0 rs G H1 s1 ht hb hR hG good => ?_⟩
    have gf := good.facts
    obtain ⟨gFair, gLen, gTot, gPos, gSmall, gPcs⟩ := gf
    refine ⟨t, _, rfl, SqT.of ht, rfl, _, _, rfl, _, _, rfl, rfl, ?_⟩
    have hlen := Paired.length hR
    -- the bank's size
    refine ⟨_, rfl, _, rfl, b, rfl, ⟨_, SqL.of hb⟩, fun q hq => ?_⟩
    refine comp_list (K := K) (a := b) (xs := xs) (fun i zs H3 => Same H1 H3 ∧ H3 q = some (.lst zs) ∧ zs = ((rs.take i).map (·.2)).map V.int) ⟨same_new hq, upd_same, rfl⟩ (fun i zs H3 h => ⟨h.1.seq (SqL.of hb), h.2.1⟩) ?_ ?_
    · rintro i x ys H4 hi hx ⟨sm, hy, rfl⟩
      obtain ⟨r, hr1, hr2⟩ := hR.get hx
      obtain ⟨q', rfl, hq'⟩ := hr2.mono sm.tps
      refine ⟨((Wk.refl _).set rfl), yes ?_⟩
      refine ⟨_, rfl, q', _, _, _, rfl, rfl, SqT.of hq', rfl, hy, ?_, nx hi ⟨sm.write hq, upd_same, ?_⟩⟩
      · refine Nat.lt_of_le_of_lt (m := 1000) ?_ (by decide)
        simp only [List.length_map, List.length_take]; (first | lia | omega)
      · rw [take_snoc hr1]; simp
    rintro zs H2 ⟨s2, hy, rfl⟩
    have s12 := s1.trans s2
    refine ⟨q, _, rfl, SqL.of hy, _, rfl, g, sc, as0, G, _, ns, rfl, s12.seq hSc, hG.mono s2, by (first | lia | omega), by (first | lia | omega), gTot, gPcs, fun a as S H3 s3 hSS l10 t52 => ?_⟩
    have s13 := s2.trans s3
    have hb3 := s13 _ _ hb
    have hR3 := hR.mono s13.tps
    have hG3 := hG.mono s13
    -- what is due
    refine ⟨_, rfl, _, rfl, b, a, xs, rs, as, S, rfl, SqL.of hb3, hR3, by (first | lia | omega), gPos, hSS, by (first | lia | omega), by (first | lia | omega), fun H4 s4 => ?_⟩
    -- what is handed in
    refine ⟨_, rfl, b, xs, rfl, .inl (SqL.of (s4 _ _ hb3)), fun pb hpb => ?_⟩
    have s5 := same_new (o := .lst xs) hpb
    have hpb5 : upd H4 pb (.lst xs) pb = some (.lst xs) := upd_same
    have s35 := s4.trans s5
    generalize upd H4 pb (.lst xs) = H5 at s5 hpb5 s35 ⊢
    refine ⟨_, rfl, a, rfl, ⟨_, SqL.of (s35 _ _ hSS.1)⟩, fun pc hpc => ?_⟩
    refine comp_copy (K := K) ⟨_, rfl⟩ (SsAt.mono hSS s35) (by (first | lia | omega)) hpc fun bs H6 s6 hbs nd hfr => ?_
    refine ⟨by show 2 ≤ sizeLine; decide, fun ph hph => ?_⟩
    have g7 := same_new (o := .lst [.ref pb, .ref pc]) hph
    have hph7 : upd H6 ph (.lst [.ref pb, .ref pc]) ph = some (.lst [.ref pb, .ref pc]) := upd_same
    have hpb7 := g7 _ _ (s6 _ _ hpb5)
    have hbs7 := hbs.mono g7
    have s37 := (s35.trans s6).trans g7
    generalize upd H6 ph (.lst [.ref pb, .ref pc]) = H7 at hph7 hpb7 hbs7 s37 ⊢
    -- what the program says
    refine ⟨_, rfl, ph, _, 0, .ref pb, rfl, rfl, SqL.of hph7, rfl, _, rfl, ph, _, 1, .ref pc, rfl, rfl, SqL.of hph7, rfl, ?_⟩
    refine ⟨pb, pc, xs, rs, bs, S, rfl, SqL.of hpb7, hR3.mono s37.tps, by (first | lia | omega), gPos, hbs7, by (first | lia | omega), by (first | lia | omega), fun H8 s8 => ?_⟩
    have s38 := s37.trans s8
    refine ⟨_, rfl, _, _, _, rfl, .of (.bl _), .inl ⟨rfl, true, kit_bool_bool, true, rfl, iteF ?_⟩⟩
    refine ⟨_, rfl, _, rfl, rfl, false, by simp, iteF ?_⟩
    refine ⟨_, rfl, _, rfl, _, rfl, by show 2 ≤ sizeLine; decide, fun pk hpk => ?_⟩
    have g9 := same_new (o := .lst [.ref b, .ref a]) hpk
    have hpk9 : upd H8 pk (.lst [.ref b, .ref a]) pk = some (.lst [.ref b, .ref a]) := upd_same
    have s39 := s38.trans g9
    have s79 := s8.trans g9
    generalize upd H8 pk (.lst [.ref b, .ref a]) = H9 at g9 hpk9 s39 s79 ⊢
    refine ⟨hD rs S, hD rs S, h_dat (s79 _ _ hph7) (SqL.of (s79 _ _ hpb7)) (hR3.mono s39.tps) (hbs7.mono s79), h_dat hpk9 (SqL.of (s39 _ _ hb3)) (hR3.mono s39.tps) (hSS.mono s39), hD_can _ _, hD_can _ _, hD_depth _ _, false, by rw [if_pos rfl, hD_eqv]; rfl, iteF ?_⟩
    -- the good ones
    refine ⟨_, rfl, b, xs, rfl, .inl (SqL.of (s39 _ _ hb3)), fun pb2 hpb2 => ?_⟩
    have gA := same_new (o := .lst xs) hpb2
    have hpbA : upd H9 pb2 (.lst xs) pb2 = some (.lst xs) := upd_same
    have s3A := s39.trans gA
    have s7A := s79.trans gA
    generalize upd H9 pb2 (.lst xs) = HA at gA hpbA s3A s7A ⊢
    refine ⟨_, rfl, g, rfl, ⟨_, SqL.of (s3A _ _ hG3.1)⟩, fun pc2 hpc2 => ?_⟩
    refine comp_copy (K := K) ⟨_, rfl⟩ (SsAt.mono hG3 s3A) (by (first | lia | omega)) hpc2 fun bs2 HB sB hbs2 nd2 hfr2 => ?_
    refine ⟨pb2, pc2, xs, rs, bs2, G, rfl, SqL.of (sB _ _ hpbA), hR3.mono (s3A.trans sB).tps, by (first | lia | omega), gPos, hbs2, by (first | lia | omega), by (first | lia | omega), fun HC sC => ?_⟩
    have s3C := (s3A.trans sB).trans sC
    have s7C := (s7A.trans sB).trans sC
    refine ⟨_, _, rfl, rfl, false, by rw [gFair]; rfl, iteF ?_⟩
    -- the good ones' cuts
    refine ⟨_, rfl, _, rfl, b, g, xs, rs, as0, G, rfl, SqL.of (s3C _ _ hb3), hR3.mono s3C.tps, by (first | lia | omega), hG3.mono s3C, by (first | lia | omega), by (first | lia | omega), fair_do gFair, fun HD sD => ⟨_, rfl, iteF ?_⟩⟩
    have s3D := s3C.trans sD
    have s7D := s7C.trans sD
    refine ⟨_, rfl, _, rfl, b, a, xs, rs, as, S, rfl, SqL.of (s3D _ _ hb3), hR3.mono s3D.tps, by (first | lia | omega), hSS.mono s3D, by (first | lia | omega), by (first | lia | omega), fun HE sE => ⟨_, rfl, ?_⟩⟩
    have s3E := s3D.trans sE
    have s7E := s7D.trans sE
    cases hdo : doB rs S with
    | false =>
      refine iteF (iteF ?_)
      refine ⟨_, rfl, ph, _, 0, .ref pb, rfl, rfl, SqL.of (s7E _ _ hph7), rfl, _, rfl, ph, _, 1, .ref pc, rfl, rfl, SqL.of (s7E _ _ hph7), rfl, ?_⟩
      refine ⟨pb, pc, xs, rs, bs, S, rfl, SqL.of (s7E _ _ hpb7), hR3.mono s3E.tps, by (first | lia | omega), gPos, hbs7.mono s7E, by (first | lia | omega), by (first | lia | omega), fun HZ sZ => ?_⟩
      refine ⟨_, rfl, _, _, _, rfl, .of (.bl _), .inl ⟨rfl, true, kit_bool_bool, true, rfl, iteT ?_⟩⟩
      refine ⟨_, rfl, _, rfl, rfl, ?_⟩
      rw [decide_eq_true rfl]
      exact k HZ
    | true =>
      refine iteT ?_
      refine ⟨_, rfl, _, rfl, b, a, xs, rs, as, S, rfl, SqL.of (s3E _ _ hb3), hR3.mono s3E.tps, by (first | lia | omega), hSS.mono s3E, by (first | lia | omega), by (first | lia | omega), hdo, fun HF sF => ⟨_, rfl, iteF ?_⟩⟩
      have s3F := s3E.trans sF
      have s7F := s7E.trans sF
      refine ⟨_, rfl, ph, _, 0, .ref pb, rfl, rfl, SqL.of (s7F _ _ hph7), rfl, _, rfl, ph, _, 1, .ref pc, rfl, rfl, SqL.of (s7F _ _ hph7), rfl, ?_⟩
      refine ⟨pb, pc, xs, rs, bs, S, rfl, SqL.of (s7F _ _ hpb7), hR3.mono s3F.tps, by (first | lia | omega), gPos, hbs7.mono s7F, by (first | lia | omega), by (first | lia | omega), fun HZ sZ => ?_⟩
      refine ⟨_, rfl, _, _, _, rfl, .of (.bl _), .inl ⟨rfl, true, kit_bool_bool, true, rfl, iteT ?_⟩⟩
      refine ⟨_, rfl, _, rfl, rfl, ?_⟩
      rw [decide_eq_true rfl]
      exact k HZ
end
end K7

set_option Elab.async false
set_option linter.all false
set_option maxRecDepth 100000
set_option maxHeartbeats 4000000
namespace K7
open PySem L2
theorem len1 {α : Type} {l : List α} (h : l.length = 1) : ∃ a, l = [a] := List.length_eq_one_iff.mp h
theorem len2 {α : Type} {l : List α} (h : l.length = 2) : ∃ a b, l = [a, b] := by
  cases l with
  | nil => cases h
  | cons a l => obtain ⟨b, rfl⟩ := len1 (Nat.succ.inj h); exact ⟨a, b, rfl⟩
theorem len3 {α : Type} {l : List α} (h : l.length = 3) : ∃ a b c, l = [a, b, c] := by
  cases l with
  | nil => cases h
  | cons a l => obtain ⟨b, c, rfl⟩ := len2 (Nat.succ.inj h); exact ⟨a, b, c, rfl⟩
theorem len4 {α : Type} {l : List α} (h : l.length = 4) : ∃ a b c d, l = [a, b, c, d] := by
  cases l with
  | nil => cases h
  | cons a l => obtain ⟨b, c, d, rfl⟩ := len3 (Nat.succ.inj h); exact ⟨a, b, c, d, rfl⟩
theorem len5 {α : Type} {l : List α} (h : l.length = 5) : ∃ a b c d e, l = [a, b, c, d, e] := by
  cases l with
  | nil => cases h
  | cons a l => obtain ⟨b, c, d, e, rfl⟩ := len4 (Nat.succ.inj h); exact ⟨a, b, c, d, e, rfl⟩
theorem all_mk {l : PySem.W.OpenLaw} {w : World} {K : PySem.W.Frag} {h : Heap} {mg : Str → Option Value} {fa f0 f1 f2 f3 f4 f5 f6 f7 f8 f9 f10 f11 f12 f13 f14 f15 f16 f17 f18 f19 f20 f21 f22 f23 f24 f25 f26 f27  : Addr} (X : K.In h) (G : h.Ns mainGlobals mg) (hfa : mg "law" = some (.ref fa))
    {od0 an0 od1 an1 od2 an2 od3 an3 od4 an4 od5 an5 od6 an6 od7 an7 od8 an8 od9 an9 od10 an10 od11 an11 od12 an12 od13 an13 od14 an14 od15 an15 od16 an16 od17 an17 od18 an18 od19 an19 od20 an20 od21 an21 od22 an22 od23 an23 od24 an24 od25 an25 od26 an26 od27 an27 : Option Addr} {sl0 sl1 sl2 sl3 sl4 sl5 sl6 sl7 sl8 sl9 sl10 sl11 sl12 sl13 sl14 sl15 sl16 sl17 sl18 sl19 sl20 sl21 sl22 sl23 sl24 sl25 sl26 sl27 : Array (Option Value)} {oc0 kV0 dc0 pm0 cd0 ct0 oc1 kV1 dc1 pm1 cd1 ct1 oc2 kV2 dc2 pm2 cd2 ct2 oc3 kV3 dc3 pm3 cd3 ct3 oc4 kV4 dc4 pm4 cd4 ct4 oc5 kV5 dc5 pm5 cd5 ct5 oc6 kV6 dc6 pm6 cd6 ct6 oc7 kV7 dc7 pm7 cd7 ct7 oc8 kV8 dc8 pm8 cd8 ct8 oc9 kV9 dc9 pm9 cd9 ct9 oc10 kV10 dc10 pm10 cd10 ct10 oc11 kV11 dc11 pm11 cd11 ct11 oc12 kV12 dc12 pm12 cd12 ct12 oc13 kV13 dc13 pm13 cd13 ct13 oc14 kV14 dc14 pm14 cd14 ct14 oc15 kV15 dc15 pm15 cd15 ct15 oc16 kV16 dc16 pm16 cd16 ct16 oc17 kV17 dc17 pm17 cd17 ct17 oc18 kV18 dc18 pm18 cd18 ct18 oc19 kV19 dc19 pm19 cd19 ct19 oc20 kV20 dc20 pm20 cd20 ct20 oc21 kV21 dc21 pm21 cd21 ct21 oc22 kV22 dc22 pm22 cd22 ct22 oc23 kV23 dc23 pm23 cd23 ct23 oc24 kV24 dc24 pm24 cd24 ct24 oc25 kV25 dc25 pm25 cd25 ct25 oc26 kV26 dc26 pm26 cd26 ct26 oc27 kV27 dc27 pm27 cd27 ct27 : Value} {td tw  : Tok}
    (ha0 : PySem.W.nsIn K mainGlobals "length" = some (some (.ref f0)))
    (hl0 : K.lookup f0 = some ⟨oc0, od0, .func (PySem.W.fnOf "length" "length" (defArgs Q7.sLen) (defBody Q7.sLen) (defScope Q7.sLen) .none kV0 dc0 pm0 an0 cd0 ct0), sl0⟩)
    (hc0 : PySem.W.codeIn K cd0 "length" = true)
    (hk0 : PySem.W.keepIn K (.ref f0) = true)
    (ha1 : PySem.W.nsIn K mainGlobals "side_by_side" = some (some (.ref f1)))
    (hl1 : K.lookup f1 = some ⟨oc1, od1, .func (PySem.W.fnOf "side_by_side" "side_by_side" (defArgs Q7.sSbs) (defBody Q7.sSbs) (defScope Q7.sSbs) .none kV1 dc1 pm1 an1 cd1 ct1), sl1⟩)
    (hc1 : PySem.W.codeIn K cd1 "side_by_side" = true)
    (hk1 : PySem.W.keepIn K (.ref f1) = true)
    (ha2 : PySem.W.nsIn K mainGlobals "apart_in_order" = some (some (.ref f2)))
    (hl2 : K.lookup f2 = some ⟨oc2, od2, .func (PySem.W.fnOf "apart_in_order" "apart_in_order" (defArgs Q7.sApt) (defBody Q7.sApt) (defScope Q7.sApt) .none kV2 dc2 pm2 an2 cd2 ct2), sl2⟩)
    (hc2 : PySem.W.codeIn K cd2 "apart_in_order" = true)
    (hk2 : PySem.W.keepIn K (.ref f2) = true)
    (ha3 : PySem.W.nsIn K mainGlobals "along_the_bank" = some (some (.ref f3)))
    (hl3 : K.lookup f3 = some ⟨oc3, od3, .func (PySem.W.fnOf "along_the_bank" "along_the_bank" (defArgs Q7.sAlong) (defBody Q7.sAlong) (defScope Q7.sAlong) .none kV3 dc3 pm3 an3 cd3 ct3), sl3⟩)
    (hc3 : PySem.W.codeIn K cd3 "along_the_bank" = true)
    (hk3 : PySem.W.keepIn K (.ref f3) = true)
    (ha4 : PySem.W.nsIn K mainGlobals "cover_once" = some (some (.ref f4)))
    (hl4 : K.lookup f4 = some ⟨oc4, od4, .func (PySem.W.fnOf "cover_once" "cover_once" (defArgs Q7.sCov) (defBody Q7.sCov) (defScope Q7.sCov) .none kV4 dc4 pm4 an4 cd4 ct4), sl4⟩)
    (hc4 : PySem.W.codeIn K cd4 "cover_once" = true)
    (hk4 : PySem.W.keepIn K (.ref f4) = true)
    (ha5 : PySem.W.nsIn K mainGlobals "all_alike" = some (some (.ref f5)))
    (hl5 : K.lookup f5 = some ⟨oc5, od5, .func (PySem.W.fnOf "all_alike" "all_alike" (defArgs Q7.sAlike) (defBody Q7.sAlike) (defScope Q7.sAlike) .none kV5 dc5 pm5 an5 cd5 ct5), sl5⟩)
    (hc5 : PySem.W.codeIn K cd5 "all_alike" = true)
    (hk5 : PySem.W.keepIn K (.ref f5) = true)
    (ha6 : PySem.W.nsIn K mainGlobals "cuts" = some (some (.ref f6)))
    (hl6 : K.lookup f6 = some ⟨oc6, od6, .func (PySem.W.fnOf "cuts" "cuts" (defArgs Q7.sCuts) (defBody Q7.sCuts) (defScope Q7.sCuts) .none kV6 dc6 pm6 an6 cd6 ct6), sl6⟩)
    (hc6 : PySem.W.codeIn K cd6 "cuts" = true)
    (hk6 : PySem.W.keepIn K (.ref f6) = true)
    (ha7 : PySem.W.nsIn K mainGlobals "fair" = some (some (.ref f7)))
    (hl7 : K.lookup f7 = some ⟨oc7, od7, .func (PySem.W.fnOf "fair" "fair" (defArgs Q7.sFair) (defBody Q7.sFair) (defScope Q7.sFair) .none kV7 dc7 pm7 an7 cd7 ct7), sl7⟩)
    (hc7 : PySem.W.codeIn K cd7 "fair" = true)
    (hk7 : PySem.W.keepIn K (.ref f7) = true)
    (ha8 : PySem.W.nsIn K mainGlobals "_law_cell_at" = some (some (.ref f8)))
    (hl8 : K.lookup f8 = some ⟨oc8, od8, .func (PySem.W.fnOf "_law_cell_at" "_law_cell_at" (defArgs sCell) (defBody sCell) (defScope sCell) .none kV8 dc8 pm8 an8 cd8 ct8), sl8⟩)
    (hc8 : PySem.W.codeIn K cd8 "_law_cell_at" = true)
    (hk8 : PySem.W.keepIn K (.ref f8) = true)
    (ha9 : PySem.W.nsIn K mainGlobals "_law_whole" = some (some (.ref f9)))
    (hl9 : K.lookup f9 = some ⟨oc9, od9, .func (PySem.W.fnOf "_law_whole" "_law_whole" (defArgs sLWh) (defBody sLWh) (defScope sLWh) .none kV9 dc9 pm9 an9 cd9 ct9), sl9⟩)
    (hc9 : PySem.W.codeIn K cd9 "_law_whole" = true)
    (hk9 : PySem.W.keepIn K (.ref f9) = true)
    (ha10 : PySem.W.nsIn K mainGlobals "_law_long" = some (some (.ref f10)))
    (hl10 : K.lookup f10 = some ⟨oc10, od10, .func (PySem.W.fnOf "_law_long" "_law_long" (defArgs sLong) (defBody sLong) (defScope sLong) .none kV10 dc10 pm10 an10 cd10 ct10), sl10⟩)
    (hc10 : PySem.W.codeIn K cd10 "_law_long" = true)
    (hk10 : PySem.W.keepIn K (.ref f10) = true)
    (ha11 : PySem.W.nsIn K mainGlobals "_law_put" = some (some (.ref f11)))
    (hl11 : K.lookup f11 = some ⟨oc11, od11, .func (PySem.W.fnOf "_law_put" "_law_put" (defArgs sPut) (defBody sPut) (defScope sPut) .none kV11 dc11 pm11 an11 cd11 ct11), sl11⟩)
    (hc11 : PySem.W.codeIn K cd11 "_law_put" = true)
    (hk11 : PySem.W.keepIn K (.ref f11) = true)
    (ha12 : PySem.W.nsIn K mainGlobals "_law_joined" = some (some (.ref f12)))
    (hl12 : K.lookup f12 = some ⟨oc12, od12, .func (PySem.W.fnOf "_law_joined" "_law_joined" (defArgs sJoin) (defBody sJoin) (defScope sJoin) .none kV12 dc12 pm12 an12 cd12 ct12), sl12⟩)
    (hc12 : PySem.W.codeIn K cd12 "_law_joined" = true)
    (hk12 : PySem.W.keepIn K (.ref f12) = true)
    (ha13 : PySem.W.nsIn K mainGlobals "_law_dealt" = some (some (.ref f13)))
    (hl13 : K.lookup f13 = some ⟨oc13, od13, .func (PySem.W.fnOf "_law_dealt" "_law_dealt" (defArgs sDealt) (defBody sDealt) (defScope sDealt) .none kV13 dc13 pm13 an13 cd13 ct13), sl13⟩)
    (hc13 : PySem.W.codeIn K cd13 "_law_dealt" = true)
    (hk13 : PySem.W.keepIn K (.ref f13) = true)
    (ha14 : PySem.W.nsIn K mainGlobals "_law_moved_edge" = some (some (.ref f14)))
    (hl14 : K.lookup f14 = some ⟨oc14, od14, .func (PySem.W.fnOf "_law_moved_edge" "_law_moved_edge" (defArgs sEdge) (defBody sEdge) (defScope sEdge) .none kV14 dc14 pm14 an14 cd14 ct14), sl14⟩)
    (hc14 : PySem.W.codeIn K cd14 "_law_moved_edge" = true)
    (hk14 : PySem.W.keepIn K (.ref f14) = true)
    (ha15 : PySem.W.nsIn K mainGlobals "_law_begins_exchanged" = some (some (.ref f15)))
    (hl15 : K.lookup f15 = some ⟨oc15, od15, .func (PySem.W.fnOf "_law_begins_exchanged" "_law_begins_exchanged" (defArgs sExc) (defBody sExc) (defScope sExc) .none kV15 dc15 pm15 an15 cd15 ct15), sl15⟩)
    (hc15 : PySem.W.codeIn K cd15 "_law_begins_exchanged" = true)
    (hk15 : PySem.W.keepIn K (.ref f15) = true)
    (ha16 : PySem.W.nsIn K mainGlobals "_law_with_length" = some (some (.ref f16)))
    (hl16 : K.lookup f16 = some ⟨oc16, od16, .func (PySem.W.fnOf "_law_with_length" "_law_with_length" (defArgs sWith) (defBody sWith) (defScope sWith) .none kV16 dc16 pm16 an16 cd16 ct16), sl16⟩)
    (hc16 : PySem.W.codeIn K cd16 "_law_with_length" = true)
    (hk16 : PySem.W.keepIn K (.ref f16) = true)
    (ha17 : PySem.W.nsIn K mainGlobals "_law_piece_spoilt" = some (some (.ref f17)))
    (hl17 : K.lookup f17 = some ⟨oc17, od17, .func (PySem.W.fnOf "_law_piece_spoilt" "_law_piece_spoilt" (defArgs sPSp) (defBody sPSp) (defScope sPSp) .none kV17 dc17 pm17 an17 cd17 ct17), sl17⟩)
    (hc17 : PySem.W.codeIn K cd17 "_law_piece_spoilt" = true)
    (hk17 : PySem.W.keepIn K (.ref f17) = true)
    (ha18 : PySem.W.nsIn K mainGlobals "_law_given" = some (some (.ref f18)))
    (hl18 : K.lookup f18 = some ⟨oc18, od18, .func (PySem.W.fnOf "_law_given" "_law_given" (defArgs sGiv) (defBody sGiv) (defScope sGiv) .none kV18 dc18 pm18 an18 cd18 ct18), sl18⟩)
    (hc18 : PySem.W.codeIn K cd18 "_law_given" = true)
    (hk18 : PySem.W.keepIn K (.ref f18) = true)
    (ha19 : PySem.W.nsIn K mainGlobals "_law_way" = some (some (.ref f19)))
    (hl19 : K.lookup f19 = some ⟨oc19, od19, .func (PySem.W.fnOf "_law_way" "_law_way" (defArgs sWay) (defBody sWay) (defScope sWay) .none kV19 dc19 pm19 an19 cd19 ct19), sl19⟩)
    (hc19 : PySem.W.codeIn K cd19 "_law_way" = true)
    (hk19 : PySem.W.keepIn K (.ref f19) = true)
    (ha20 : PySem.W.nsIn K mainGlobals "_law_spoilt" = some (some (.ref f20)))
    (hl20 : K.lookup f20 = some ⟨oc20, od20, .func (PySem.W.fnOf "_law_spoilt" "_law_spoilt" (defArgs sSpo) (defBody sSpo) (defScope sSpo) .none kV20 dc20 pm20 an20 cd20 ct20), sl20⟩)
    (hc20 : PySem.W.codeIn K cd20 "_law_spoilt" = true)
    (hk20 : PySem.W.keepIn K (.ref f20) = true)
    (ha21 : PySem.W.nsIn K mainGlobals "_law_rows" = some (some (.ref f21)))
    (hl21 : K.lookup f21 = some ⟨oc21, od21, .func (PySem.W.fnOf "_law_rows" "_law_rows" (defArgs sRows) (defBody sRows) (defScope sRows) .none kV21 dc21 pm21 an21 cd21 ct21), sl21⟩)
    (hc21 : PySem.W.codeIn K cd21 "_law_rows" = true)
    (hk21 : PySem.W.keepIn K (.ref f21) = true)
    (ha22 : PySem.W.nsIn K mainGlobals "_law_sums" = some (some (.ref f22)))
    (hl22 : K.lookup f22 = some ⟨oc22, od22, .func (PySem.W.fnOf "_law_sums" "_law_sums" (defArgs sSums) (defBody sSums) (defScope sSums) .none kV22 dc22 pm22 an22 cd22 ct22), sl22⟩)
    (hc22 : PySem.W.codeIn K cd22 "_law_sums" = true)
    (hk22 : PySem.W.keepIn K (.ref f22) = true)
    (ha23 : PySem.W.nsIn K mainGlobals "_law_dealt_out" = some (some (.ref f23)))
    (hl23 : K.lookup f23 = some ⟨oc23, od23, .func (PySem.W.fnOf "_law_dealt_out" "_law_dealt_out" (defArgs sDO) (defBody sDO) (defScope sDO) .none kV23 dc23 pm23 an23 cd23 ct23), sl23⟩)
    (hc23 : PySem.W.codeIn K cd23 "_law_dealt_out" = true)
    (hk23 : PySem.W.keepIn K (.ref f23) = true)
    (ha24 : PySem.W.nsIn K mainGlobals "_law_fair" = some (some (.ref f24)))
    (hl24 : K.lookup f24 = some ⟨oc24, od24, .func (PySem.W.fnOf "_law_fair" "_law_fair" (defArgs sLFair) (defBody sLFair) (defScope sLFair) .none kV24 dc24 pm24 an24 cd24 ct24), sl24⟩)
    (hc24 : PySem.W.codeIn K cd24 "_law_fair" = true)
    (hk24 : PySem.W.keepIn K (.ref f24) = true)
    (ha25 : PySem.W.nsIn K mainGlobals "_law_cuts" = some (some (.ref f25)))
    (hl25 : K.lookup f25 = some ⟨oc25, od25, .func (PySem.W.fnOf "_law_cuts" "_law_cuts" (defArgs sLCuts) (defBody sLCuts) (defScope sLCuts) .none kV25 dc25 pm25 an25 cd25 ct25), sl25⟩)
    (hc25 : PySem.W.codeIn K cd25 "_law_cuts" = true)
    (hk25 : PySem.W.keepIn K (.ref f25) = true)
    (ha26 : PySem.W.nsIn K mainGlobals "_law_cuts_fit" = some (some (.ref f26)))
    (hl26 : K.lookup f26 = some ⟨oc26, od26, .func (PySem.W.fnOf "_law_cuts_fit" "_law_cuts_fit" (defArgs sFit) (defBody sFit) (defScope sFit) .none kV26 dc26 pm26 an26 cd26 ct26), sl26⟩)
    (hc26 : PySem.W.codeIn K cd26 "_law_cuts_fit" = true)
    (hk26 : PySem.W.keepIn K (.ref f26) = true)
    (ha27 : PySem.W.nsIn K mainGlobals "law" = some (some (.ref f27)))
    (hl27 : K.lookup f27 = some ⟨oc27, od27, .func (PySem.W.fnOf "law" "law" (defArgs sLaw) (defBody sLaw) (defScope sLaw) .none kV27 dc27 pm27 an27 cd27 ct27), sl27⟩)
    (hc27 : PySem.W.codeIn K cd27 "law" = true)
    (hk27 : PySem.W.keepIn K (.ref f27) = true)
    (hz_isinstance : PySem.W.nsIn K mainGlobals "isinstance" = some none)
    (hz_str : PySem.W.nsIn K mainGlobals "str" = some none)
    (hz_int : PySem.W.nsIn K mainGlobals "int" = some none)
    (hz_bool : PySem.W.nsIn K mainGlobals "bool" = some none)
    (hz_list : PySem.W.nsIn K mainGlobals "list" = some none)
    (hz_tuple : PySem.W.nsIn K mainGlobals "tuple" = some none)
    (hz_len : PySem.W.nsIn K mainGlobals "len" = some none)
    (hz_sum : PySem.W.nsIn K mainGlobals "sum" = some none)
    (hz_max : PySem.W.nsIn K mainGlobals "max" = some none)
    (hz_min : PySem.W.nsIn K mainGlobals "min" = some none)
    (hz_range : PySem.W.nsIn K mainGlobals "range" = some none)
    (hz_enumerate : PySem.W.nsIn K mainGlobals "enumerate" = some none)
    (hz_ValueError : PySem.W.nsIn K mainGlobals "ValueError" = some none)
    (hz_reversed : PySem.W.nsIn K mainGlobals "reversed" = some none)
    (hz_abs : PySem.W.nsIn K mainGlobals "abs" = some none)
    (hz_sorted : PySem.W.nsIn K mainGlobals "sorted" = some none)
    (hz_set : PySem.W.nsIn K mainGlobals "set" = some none)
    (hz_zip : PySem.W.nsIn K mainGlobals "zip" = some none)
    (hz_all : PySem.W.nsIn K mainGlobals "all" = some none)
    (hdry : PySem.W.nsIn K mainGlobals "DRY" = some (some (.str "dry" td)))
    (hwet : PySem.W.nsIn K mainGlobals "WET" = some (some (.str "wet" tw)))
    : ∃ fd : FuncData, (∀ (s : Shared) (v : Value), BindsTo s fd ⟨[v], []⟩ [("_law_script", v)]) ∧ ∀ base : Heap, K.In base → base.Ns mainGlobals mg → FnOk l.prog w K mg base CX0 4 fa fd ["_law_script"] (spLaw K) := by
  have e := hfa.symm.trans (PySem.W.mg_of X G ha27)
  cases e
  have T : Q7.Py mg := ⟨PySem.W.mg_none_of X G hz_isinstance, PySem.W.mg_none_of X G hz_str, PySem.W.mg_none_of X G hz_int, PySem.W.mg_none_of X G hz_bool, PySem.W.mg_none_of X G hz_list, PySem.W.mg_none_of X G hz_tuple, PySem.W.mg_none_of X G hz_len, PySem.W.mg_none_of X G hz_sum, PySem.W.mg_none_of X G hz_max, PySem.W.mg_none_of X G hz_min, PySem.W.mg_none_of X G hz_range, PySem.W.mg_none_of X G hz_enumerate, PySem.W.mg_none_of X G hz_ValueError, PySem.W.mg_none_of X G hz_reversed, PySem.W.mg_none_of X G hz_abs, PySem.W.mg_none_of X G hz_sorted, PySem.W.mg_none_of X G hz_set, PySem.W.mg_none_of X G hz_zip, PySem.W.mg_none_of X G hz_all, ⟨_, PySem.W.mg_of X G hdry⟩, ⟨_, PySem.W.mg_of X G hwet⟩⟩
  have TL : Pl mg := ⟨PySem.W.mg_none_of X G hz_isinstance, PySem.W.mg_none_of X G hz_int, PySem.W.mg_none_of X G hz_bool, PySem.W.mg_none_of X G hz_list, PySem.W.mg_none_of X G hz_tuple, PySem.W.mg_none_of X G hz_len, PySem.W.mg_none_of X G hz_sum, PySem.W.mg_none_of X G hz_max, PySem.W.mg_none_of X G hz_min, PySem.W.mg_none_of X G hz_range, PySem.W.mg_none_of X G hz_sorted⟩
  have F0 := fung_mk (st := Q7.sLen) hl0 hc0 hk0
  have D0 : Df K mg "length" Q7.sLen ["bank"] f0 _ := ⟨F0, PySem.W.mg_of X G ha0, F0.binds (ps := ["bank"]) fun _ _ _ _ _ _ us hl => by obtain ⟨ua, rfl⟩ := len1 hl; rfl⟩
  have F1 := fung_mk (st := Q7.sSbs) hl1 hc1 hk1
  have D1 : Df K mg "side_by_side" Q7.sSbs ["rows", "others"] f1 _ := ⟨F1, PySem.W.mg_of X G ha1, F1.binds (ps := ["rows", "others"]) fun _ _ _ _ _ _ us hl => by obtain ⟨ua, ub, rfl⟩ := len2 hl; rfl⟩
  have F2 := fung_mk (st := Q7.sApt) hl2 hc2 hk2
  have D2 : Df K mg "apart_in_order" Q7.sApt ["share"] f2 _ := ⟨F2, PySem.W.mg_of X G ha2, F2.binds (ps := ["share"]) fun _ _ _ _ _ _ us hl => by obtain ⟨ua, rfl⟩ := len1 hl; rfl⟩
  have F3 := fung_mk (st := Q7.sAlong) hl3 hc3 hk3
  have D3 : Df K mg "along_the_bank" Q7.sAlong ["shares"] f3 _ := ⟨F3, PySem.W.mg_of X G ha3, F3.binds (ps := ["shares"]) fun _ _ _ _ _ _ us hl => by obtain ⟨ua, rfl⟩ := len1 hl; rfl⟩
  have F4 := fung_mk (st := Q7.sCov) hl4 hc4 hk4
  have D4 : Df K mg "cover_once" Q7.sCov ["pieces", "whole"] f4 _ := ⟨F4, PySem.W.mg_of X G ha4, F4.binds (ps := ["pieces", "whole"]) fun _ _ _ _ _ _ us hl => by obtain ⟨ua, ub, rfl⟩ := len2 hl; rfl⟩
  have F5 := fung_mk (st := Q7.sAlike) hl5 hc5 hk5
  have D5 : Df K mg "all_alike" Q7.sAlike ["numbers"] f5 _ := ⟨F5, PySem.W.mg_of X G ha5, F5.binds (ps := ["numbers"]) fun _ _ _ _ _ _ us hl => by obtain ⟨ua, rfl⟩ := len1 hl; rfl⟩
  have F6 := fung_mk (st := Q7.sCuts) hl6 hc6 hk6
  have D6 : Df K mg "cuts" Q7.sCuts ["bank", "shares"] f6 _ := ⟨F6, PySem.W.mg_of X G ha6, F6.binds (ps := ["bank", "shares"]) fun _ _ _ _ _ _ us hl => by obtain ⟨ua, ub, rfl⟩ := len2 hl; rfl⟩
  have F7 := fung_mk (st := Q7.sFair) hl7 hc7 hk7
  have D7 : Df K mg "fair" Q7.sFair ["bank", "shares"] f7 _ := ⟨F7, PySem.W.mg_of X G ha7, F7.binds (ps := ["bank", "shares"]) fun _ _ _ _ _ _ us hl => by obtain ⟨ua, ub, rfl⟩ := len2 hl; rfl⟩
  have F8 := fung_mk (st := sCell) hl8 hc8 hk8
  have D8 : Df K mg "_law_cell_at" sCell ["_law_script", "_law_k"] f8 _ := ⟨F8, PySem.W.mg_of X G ha8, F8.binds (ps := ["_law_script", "_law_k"]) fun _ _ _ _ _ _ us hl => by obtain ⟨ua, ub, rfl⟩ := len2 hl; rfl⟩
  have F9 := fung_mk (st := sLWh) hl9 hc9 hk9
  have D9 : Df K mg "_law_whole" sLWh ["_law_found"] f9 _ := ⟨F9, PySem.W.mg_of X G ha9, F9.binds (ps := ["_law_found"]) fun _ _ _ _ _ _ us hl => by obtain ⟨ua, rfl⟩ := len1 hl; rfl⟩
  have F10 := fung_mk (st := sLong) hl10 hc10 hk10
  have D10 : Df K mg "_law_long" sLong ["_law_cell"] f10 _ := ⟨F10, PySem.W.mg_of X G ha10, F10.binds (ps := ["_law_cell"]) fun _ _ _ _ _ _ us hl => by obtain ⟨ua, rfl⟩ := len1 hl; rfl⟩
  have F11 := fung_mk (st := sPut) hl11 hc11 hk11
  have D11 : Df K mg "_law_put" sPut ["_law_rows_here", "_law_ground", "_law_long_here"] f11 _ := ⟨F11, PySem.W.mg_of X G ha11, F11.binds (ps := ["_law_rows_here", "_law_ground", "_law_long_here"]) fun _ _ _ _ _ _ us hl => by obtain ⟨ua, ub, uc, rfl⟩ := len3 hl; rfl⟩
  have F12 := fung_mk (st := sJoin) hl12 hc12 hk12
  have D12 : Df K mg "_law_joined" sJoin ["_law_share"] f12 _ := ⟨F12, PySem.W.mg_of X G ha12, F12.binds (ps := ["_law_share"]) fun _ _ _ _ _ _ us hl => by obtain ⟨ua, rfl⟩ := len1 hl; rfl⟩
  have F13 := fung_mk (st := sDealt) hl13 hc13 hk13
  have D13 : Df K mg "_law_dealt" sDealt ["_law_script", "_law_heirs"] f13 _ := ⟨F13, PySem.W.mg_of X G ha13, F13.binds (ps := ["_law_script", "_law_heirs"]) fun _ _ _ _ _ _ us hl => by obtain ⟨ua, ub, rfl⟩ := len2 hl; rfl⟩
  have F14 := fung_mk (st := sEdge) hl14 hc14 hk14
  have D14 : Df K mg "_law_moved_edge" sEdge ["_law_shares", "_law_edge"] f14 _ := ⟨F14, PySem.W.mg_of X G ha14, F14.binds (ps := ["_law_shares", "_law_edge"]) fun _ _ _ _ _ _ us hl => by obtain ⟨ua, ub, rfl⟩ := len2 hl; rfl⟩
  have F15 := fung_mk (st := sExc) hl15 hc15 hk15
  have D15 : Df K mg "_law_begins_exchanged" sExc ["_law_shares", "_law_at", "_law_other", "_law_cell"] f15 _ := ⟨F15, PySem.W.mg_of X G ha15, F15.binds (ps := ["_law_shares", "_law_at", "_law_other", "_law_cell"]) fun _ _ _ _ _ _ us hl => by obtain ⟨ua, ub, uc, ud, rfl⟩ := len4 hl; rfl⟩
  have F16 := fung_mk (st := sWith) hl16 hc16 hk16
  have D16 : Df K mg "_law_with_length" sWith ["_law_pieces"] f16 _ := ⟨F16, PySem.W.mg_of X G ha16, F16.binds (ps := ["_law_pieces"]) fun _ _ _ _ _ _ us hl => by obtain ⟨ua, rfl⟩ := len1 hl; rfl⟩
  have F17 := fung_mk (st := sPSp) hl17 hc17 hk17
  have D17 : Df K mg "_law_piece_spoilt" sPSp ["_law_piece", "_law_way_here", "_law_cell"] f17 _ := ⟨F17, PySem.W.mg_of X G ha17, F17.binds (ps := ["_law_piece", "_law_way_here", "_law_cell"]) fun _ _ _ _ _ _ us hl => by obtain ⟨ua, ub, uc, rfl⟩ := len3 hl; rfl⟩
  have F18 := fung_mk (st := sGiv) hl18 hc18 hk18
  have D18 : Df K mg "_law_given" sGiv ["_law_made", "_law_at", "_law_other", "_law_way_here", "_law_k"] f18 _ := ⟨F18, PySem.W.mg_of X G ha18, F18.binds (ps := ["_law_made", "_law_at", "_law_other", "_law_way_here", "_law_k"]) fun _ _ _ _ _ _ us hl => by obtain ⟨ua, ub, uc, ud, ue, rfl⟩ := len5 hl; rfl⟩
  have F19 := fung_mk (st := sWay) hl19 hc19 hk19
  have D19 : Df K mg "_law_way" sWay ["_law_cell"] f19 _ := ⟨F19, PySem.W.mg_of X G ha19, F19.binds (ps := ["_law_cell"]) fun _ _ _ _ _ _ us hl => by obtain ⟨ua, rfl⟩ := len1 hl; rfl⟩
  have F20 := fung_mk (st := sSpo) hl20 hc20 hk20
  have D20 : Df K mg "_law_spoilt" sSpo ["_law_shares", "_law_size", "_law_script"] f20 _ := ⟨F20, PySem.W.mg_of X G ha20, F20.binds (ps := ["_law_shares", "_law_size", "_law_script"]) fun _ _ _ _ _ _ us hl => by obtain ⟨ua, ub, uc, rfl⟩ := len3 hl; rfl⟩
  have F21 := fung_mk (st := sRows) hl21 hc21 hk21
  have D21 : Df K mg "_law_rows" sRows ["_law_shares"] f21 _ := ⟨F21, PySem.W.mg_of X G ha21, F21.binds (ps := ["_law_shares"]) fun _ _ _ _ _ _ us hl => by obtain ⟨ua, rfl⟩ := len1 hl; rfl⟩
  have F22 := fung_mk (st := sSums) hl22 hc22 hk22
  have D22 : Df K mg "_law_sums" sSums ["_law_bank", "_law_rows_here", "_law_many"] f22 _ := ⟨F22, PySem.W.mg_of X G ha22, F22.binds (ps := ["_law_bank", "_law_rows_here", "_law_many"]) fun _ _ _ _ _ _ us hl => by obtain ⟨ua, ub, uc, rfl⟩ := len3 hl; rfl⟩
  have F23 := fung_mk (st := sDO) hl23 hc23 hk23
  have D23 : Df K mg "_law_dealt_out" sDO ["_law_bank", "_law_shares"] f23 _ := ⟨F23, PySem.W.mg_of X G ha23, F23.binds (ps := ["_law_bank", "_law_shares"]) fun _ _ _ _ _ _ us hl => by obtain ⟨ua, ub, rfl⟩ := len2 hl; rfl⟩
  have F24 := fung_mk (st := sLFair) hl24 hc24 hk24
  have D24 : Df K mg "_law_fair" sLFair ["_law_bank", "_law_shares"] f24 _ := ⟨F24, PySem.W.mg_of X G ha24, F24.binds (ps := ["_law_bank", "_law_shares"]) fun _ _ _ _ _ _ us hl => by obtain ⟨ua, ub, rfl⟩ := len2 hl; rfl⟩
  have F25 := fung_mk (st := sLCuts) hl25 hc25 hk25
  have D25 : Df K mg "_law_cuts" sLCuts ["_law_bank", "_law_shares"] f25 _ := ⟨F25, PySem.W.mg_of X G ha25, F25.binds (ps := ["_law_bank", "_law_shares"]) fun _ _ _ _ _ _ us hl => by obtain ⟨ua, ub, rfl⟩ := len2 hl; rfl⟩
  have F26 := fung_mk (st := sFit) hl26 hc26 hk26
  have D26 : Df K mg "_law_cuts_fit" sFit ["_law_bank", "_law_shares"] f26 _ := ⟨F26, PySem.W.mg_of X G ha26, F26.binds (ps := ["_law_bank", "_law_shares"]) fun _ _ _ _ _ _ us hl => by obtain ⟨ua, ub, rfl⟩ := len2 hl; rfl⟩
  have F27 := fung_mk (st := sLaw) hl27 hc27 hk27
  refine ⟨PySem.W.fnOf "law" "law" (defArgs sLaw) (defBody sLaw) (defScope sLaw) .none kV27 dc27 pm27 an27 cd27 ct27, fun s v => .of_eq rfl, fun base _ _ => ?_⟩
  have GDe : FnOk l.prog w K mg base CX0 3 f13 _ ["_law_script", "_law_heirs"] (spDealt K) := (ok_dealt (P := l.prog) (w := w) (base := base) D13.fn TL D8 D10 D11 D12).mono (by decide)
  have GSp : FnOk l.prog w K mg base CX0 3 f20 _ ["_law_shares", "_law_size", "_law_script"] (spSpo K) := ok_spo (P := l.prog) (w := w) (base := base) D20.fn TL D8 D19 D18 D12 D14 D15 D16 D17
  have GLF : FnOk l.prog w K mg base CX0 3 f24 _ ["_law_bank", "_law_shares"] (spLFair K) := ok_lfair (P := l.prog) (w := w) (base := base) D24.fn TL D21 D22 D23
  have GF : FnOk l.prog w K mg base CX0 2 f7 _ ["bank", "shares"] (Q7.spFair K) := Q7.ok_fair (P := l.prog) (w := w) (base := base) D7.fn T D0 D1 D2 D3 D4 D5
  have GFit : FnOk l.prog w K mg base CX0 3 f26 _ ["_law_bank", "_law_shares"] (spFit K) := ok_fit (P := l.prog) (w := w) (base := base) D26.fn TL T D6 D0 D9 D25
  have GDO : FnOk l.prog w K mg base CX0 2 f23 _ ["_law_bank", "_law_shares"] (spDO K) := ok_do (P := l.prog) (w := w) (base := base) D23.fn TL D21
  exact ok_law F27 TL D8 D13 D20 D24 D7 D26 D23 GDe GSp GLF GF GFit GDO
theorem walk {l : PySem.W.OpenLaw} {q : Program} {loose : List Str} {XP : (Str → Option Value) → Heap → Prop} {YP : World → Heap → Prop} {d : DefRec} {K : Params → PySem.W.Frag} (hn : l.most = some 63) (hdf : d.params.defaults = [])
    (hY : ∀ (w : World) (h : Heap), YP w h → (K w.params).In h)
    (F : ∀ (w : World) (mg : Str → Option Value) (fa : Addr) (h : Heap), (K w.params).In h → h.Ns mainGlobals mg → mg d.name = some (.ref fa) →
      ∃ fd : FuncData, (∀ (s : Shared) (u : Value), BindsTo s fd ⟨[u], []⟩ [("_law_script", u)]) ∧ ∀ base : Heap, (K w.params).In base → base.Ns mainGlobals mg → FnOk l.prog w (K w.params) mg base CX0 4 fa fd ["_law_script"] (spLaw (K w.params))) :
    PySem.W.WalkO q loose XP YP l.row.toRowW d [] (fun f vs => PySem.call f vs) :=
  L2.walk_of (n := 63) (k := 4) (x := "_law_script") (CX := fun _ => CX0) (sp := fun w => spLaw (K w.params)) hn (by decide) hdf ⟨rfl, by decide, by decide⟩ hY F (fun _ _ a ns hl _ hS => ⟨a, ns, rfl, hS, hl, fun _ => rfl⟩) fun _ _ _ _ _ z => z
end K7
open PySem PySem.W PyProof.Rows
set_option maxRecDepth 100000 in
set_option maxHeartbeats 0 in
theorem PySem.Challenge.cw_bankshare_k07_fair_looked_at_holds : PySem.Challenge.rw_bankshare_k07_fair_looked_at.Holds := by
  w_on; o_law; k_head; (case hw => w_witness2)
  k_fill
  refine K7.walk (l := PySem.Challenge.rw_bankshare_k07_fair_looked_at) rfl rfl (fun w h Y => PySem.W.kIn_of Y) ?F
  case F =>
    intro w mg fa h KX G hmg
    refine' K7.all_mk KX G hmg ?a0 ?l0 ?c0 ?k0 ?a1 ?l1 ?c1 ?k1 ?a2 ?l2 ?c2 ?k2 ?a3 ?l3 ?c3 ?k3 ?a4 ?l4 ?c4 ?k4 ?a5 ?l5 ?c5 ?k5 ?a6 ?l6 ?c6 ?k6 ?a7 ?l7 ?c7 ?k7 ?a8 ?l8 ?c8 ?k8 ?a9 ?l9 ?c9 ?k9 ?a10 ?l10 ?c10 ?k10 ?a11 ?l11 ?c11 ?k11 ?a12 ?l12 ?c12 ?k12 ?a13 ?l13 ?c13 ?k13 ?a14 ?l14 ?c14 ?k14 ?a15 ?l15 ?c15 ?k15 ?a16 ?l16 ?c16 ?k16 ?a17 ?l17 ?c17 ?k17 ?a18 ?l18 ?c18 ?k18 ?a19 ?l19 ?c19 ?k19 ?a20 ?l20 ?c20 ?k20 ?a21 ?l21 ?c21 ?k21 ?a22 ?l22 ?c22 ?k22 ?a23 ?l23 ?c23 ?k23 ?a24 ?l24 ?c24 ?k24 ?a25 ?l25 ?c25 ?k25 ?a26 ?l26 ?c26 ?k26 ?a27 ?l27 ?c27 ?k27 ?z_isinstance ?z_str ?z_int ?z_bool ?z_list ?z_tuple ?z_len ?z_sum ?z_max ?z_min ?z_range ?z_enumerate ?z_ValueError ?z_reversed ?z_abs ?z_sorted ?z_set ?z_zip ?z_all ?dry ?wet
    (case a0 => k_is)
    (case l0 => k_is)
    (case c0 => k_is)
    (case k0 => k_is)
    (case a1 => k_is)
    (case l1 => k_is)
    (case c1 => k_is)
    (case k1 => k_is)
    (case a2 => k_is)
    (case l2 => k_is)
    (case c2 => k_is)
    (case k2 => k_is)
    (case a3 => k_is)
    (case l3 => k_is)
    (case c3 => k_is)
    (case k3 => k_is)
    (case a4 => k_is)
    (case l4 => k_is)
    (case c4 => k_is)
    (case k4 => k_is)
    (case a5 => k_is)
    (case l5 => k_is)
    (case c5 => k_is)
    (case k5 => k_is)
    (case a6 => k_is)
    (case l6 => k_is)
    (case c6 => k_is)
    (case k6 => k_is)
    (case a7 => k_is)
    (case l7 => k_is)
    (case c7 => k_is)
    (case k7 => k_is)
    (case a8 => k_is)
    (case l8 => k_is)
    (case c8 => k_is)
    (case k8 => k_is)
    (case a9 => k_is)
    (case l9 => k_is)
    (case c9 => k_is)
    (case k9 => k_is)
    (case a10 => k_is)
    (case l10 => k_is)
    (case c10 => k_is)
    (case k10 => k_is)
    (case a11 => k_is)
    (case l11 => k_is)
    (case c11 => k_is)
    (case k11 => k_is)
    (case a12 => k_is)
    (case l12 => k_is)
    (case c12 => k_is)
    (case k12 => k_is)
    (case a13 => k_is)
    (case l13 => k_is)
    (case c13 => k_is)
    (case k13 => k_is)
    (case a14 => k_is)
    (case l14 => k_is)
    (case c14 => k_is)
    (case k14 => k_is)
    (case a15 => k_is)
    (case l15 => k_is)
    (case c15 => k_is)
    (case k15 => k_is)
    (case a16 => k_is)
    (case l16 => k_is)
    (case c16 => k_is)
    (case k16 => k_is)
    (case a17 => k_is)
    (case l17 => k_is)
    (case c17 => k_is)
    (case k17 => k_is)
    (case a18 => k_is)
    (case l18 => k_is)
    (case c18 => k_is)
    (case k18 => k_is)
    (case a19 => k_is)
    (case l19 => k_is)
    (case c19 => k_is)
    (case k19 => k_is)
    (case a20 => k_is)
    (case l20 => k_is)
    (case c20 => k_is)
    (case k20 => k_is)
    (case a21 => k_is)
    (case l21 => k_is)
    (case c21 => k_is)
    (case k21 => k_is)
    (case a22 => k_is)
    (case l22 => k_is)
    (case c22 => k_is)
    (case k22 => k_is)
    (case a23 => k_is)
    (case l23 => k_is)
    (case c23 => k_is)
    (case k23 => k_is)
    (case a24 => k_is)
    (case l24 => k_is)
    (case c24 => k_is)
    (case k24 => k_is)
    (case a25 => k_is)
    (case l25 => k_is)
    (case c25 => k_is)
    (case k25 => k_is)
    (case a26 => k_is)
    (case l26 => k_is)
    (case c26 => k_is)
    (case k26 => k_is)
    (case a27 => k_is)
    (case l27 => k_is)
    (case c27 => k_is)
    (case k27 => k_is)
    (case z_isinstance => k_is)
    (case z_str => k_is)
    (case z_int => k_is)
    (case z_bool => k_is)
    (case z_list => k_is)
    (case z_tuple => k_is)
    (case z_len => k_is)
    (case z_sum => k_is)
    (case z_max => k_is)
    (case z_min => k_is)
    (case z_range => k_is)
    (case z_enumerate => k_is)
    (case z_ValueError => k_is)
    (case z_reversed => k_is)
    (case z_abs => k_is)
    (case z_sorted => k_is)
    (case z_set => k_is)
    (case z_zip => k_is)
    (case z_all => k_is)
    (case dry => k_is)
    (case wet => k_is)
