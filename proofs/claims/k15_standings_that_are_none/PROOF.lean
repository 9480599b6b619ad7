import PyProof.Rows.All
import Wide.All
import OpenK.AllK
import Wide.FinOn
import Lean
import PyProof.EqAt
import PyProof.EqKinds
import PyProof.TupleCall
import PyProof.NeKinds
import KE.KTabLook
import KE.KIntText
import KE.KUnpack
import PyProof.StrBlock2
import PyProof.ZipIter
import PyProof.Draws
import PyProof.AttrMissHeap
import PyProof.DictUpdate
import PyProof.ListNew
import PyProof.FactsAll.dict_1
import PyProof.Rows.DictSet
import PySem.Challenge.RW_anydelay_k15_standings_that_are_none
import PyProof.Rows.StrInSeq3
import PyProof.FactsAll.list_1
import PyProof.StationsW
import PyProof.RulesAs
import PyProof.ExcClass2
import KE.KTryMore
import PyProof.InstStoreFacts
import PyProof.ExcBaseAll.ValueError
import PyProof.NsDelKeeps
import PyProof.TupleOfStr
import PyProof.ListStr
import PyProof.FactsAll.subtypes_4
import KE.IntTextLaws
noncomputable section
-- CHANGE: your row's module here, as the last of these rows
set_option Elab.async false
set_option linter.all false
set_option maxRecDepth 100000
namespace L2
open PySem PySem.Spec PyProof.Rows

abbrev Key := Sum Int Str
noncomputable def keyIs : Key → Value → Bool
  | .inl k, v => Value.isInt k v
  | .inr x, v => Value.isStrOf x v
noncomputable def keyH (w : World) : Key → Int
  | .inl k => hashInt k
  | .inr x => hashStr w x
theorem keyIs_shape : ∀ {k : Key} {v : Value}, keyIs k v = true → (∃ i t, k = Sum.inl i ∧ v = Value.int i t) ∨ (∃ x t, k = Sum.inr x ∧ v = Value.str x t)
  | .inl i, v, h => by
    obtain ⟨t, e⟩ := Value.isInt_shape (k := i) (v := v) h
    exact .inl ⟨i, t, rfl, e⟩
  | .inr x, v, h => by
    obtain ⟨t, e⟩ := Value.isStrOf_shape (x := x) (v := v) h
    exact .inr ⟨x, t, rfl, e⟩
theorem key_ll (a b : Int) : decide ((Sum.inl a : Key) = Sum.inl b) = (a == b) := by
  by_cases e : a = b
  · subst e; simp
  · have h : ¬ (Sum.inl a : Key) = Sum.inl b := fun q => e (Sum.inl.inj q)
    rw [decide_eq_false h]
    exact (beq_eq_false_iff_ne.mpr e).symm
theorem key_rr (a b : Str) : decide ((Sum.inr a : Key) = Sum.inr b) = decide (a = b) := by
  by_cases e : a = b
  · subst e; simp
  · have h : ¬ (Sum.inr a : Key) = Sum.inr b := fun q => e (Sum.inr.inj q)
    rw [decide_eq_false h, decide_eq_false e]
theorem key_lr (a : Int) (b : Str) : decide ((Sum.inl a : Key) = Sum.inr b) = false := decide_eq_false (fun q => nomatch q)
theorem key_rl (a : Str) (b : Int) : decide ((Sum.inr a : Key) = Sum.inl b) = false := decide_eq_false (fun q => nomatch q)

noncomputable def mixKind (prog : Program) (w : World) : PySem.KeyKind prog w Key where
  is := keyIs
  hash := keyH w
  inj := fun v a b ha hb => by
    rcases keyIs_shape ha with ⟨i, t, rfl, rfl⟩ | ⟨x, t, rfl, rfl⟩
    · rcases keyIs_shape hb with ⟨j, u, rfl, e⟩ | ⟨y, u, rfl, e⟩
      · injection e with e1 _; rw [e1]
      · exact nomatch e
    · rcases keyIs_shape hb with ⟨j, u, rfl, e⟩ | ⟨y, u, rfl, e⟩
      · exact nomatch e
      · injection e with e1 _; rw [e1]
  byValue := fun k v h => by
    rcases keyIs_shape h with ⟨i, t, rfl, rfl⟩ | ⟨x, t, rfl, rfl⟩ <;> rfl
  pyHash := fun hv h => by
    rcases keyIs_shape hv with ⟨i, t, rfl, rfl⟩ | ⟨x, t, rfl, rfl⟩
    · exact wpAny_pyHash_int h
    · exact wpAny_pyHash_str h
  eqBool := fun hu hv h => by
    rcases keyIs_shape hu with ⟨i, t, rfl, rfl⟩ | ⟨x, t, rfl, rfl⟩
    · rcases keyIs_shape hv with ⟨j, u, rfl, rfl⟩ | ⟨y, u, rfl, rfl⟩
      · rw [key_ll] at h; exact wpAny_eqBool_int h
      · rw [key_lr] at h; exact SeqAt.EqAt.int_str i t y u _ _ _ _ h
    · rcases keyIs_shape hv with ⟨j, u, rfl, rfl⟩ | ⟨y, u, rfl, rfl⟩
      · rw [key_rl] at h; exact SeqAt.EqAt.str_int x t j u _ _ _ _ h
      · rw [key_rr] at h; exact wpAny_eqBool_str h
  «strs» := fun k x t v h => by
    rcases keyIs_shape h with ⟨i, u, rfl, e⟩ | ⟨y, u, rfl, e⟩
    · exact nomatch e
    · injection e with e1 _
      subst e1
      cases v <;> rfl

end L2

namespace L2
open PySem PySem.Spec PyProof.Rows

inductive V where
  | non | bl (b : Bool) | int (i : Int) | str (x : Str) | byt (b : Array UInt8) | flt (b : UInt64) | ref (a : Addr) | ty (n : String)
  deriving DecidableEq

noncomputable def RelV : V → Value → Prop
  | .non, u => u = Value.none
  | .bl b, u => u = Value.bool b
  | .int i, u => ∃ t, u = Value.int i t
  | .str x, u => ∃ t, u = Value.str x t
  | .byt b, u => ∃ t, u = Value.bytes b t
  | .flt b, u => ∃ t, u = Value.float b t
  | .ref a, u => u = Value.ref a
  | .ty n, u => u = Value.type n

abbrev Vals : List V → List Value → Prop := Paired RelV
theorem Vals.length {xs : List V} {us : List Value} (r : Vals xs us) : xs.length = us.length := Paired.length r
theorem Vals.get : ∀ {xs : List V} {us : List Value} {i : Nat} {x : V}, Vals xs us → xs[i]? = some x → ∃ u, us[i]? = some u ∧ RelV x u
  | _, _, _, _, .nil, e => by simp at e
  | _, _, 0, _, .cons r _, e => by simp at e; subst e; exact ⟨_, rfl, r⟩
  | _, _, i + 1, x, .cons _ t, e => by
    obtain ⟨u, h1, h2⟩ := Vals.get (i := i) (x := x) t (by simpa using e)
    exact ⟨u, by simpa using h1, h2⟩
theorem Vals.set {x : V} {u : Value} (r : RelV x u) : ∀ {xs : List V} {us : List Value} (i : Nat), Vals xs us → Vals (xs.set i x) (us.set i u)
  | _, _, _, .nil => .nil
  | _, _, 0, .cons _ t => .cons r t
  | _, _, i + 1, .cons q t => .cons q (Vals.set r i t)
theorem Vals.append : ∀ {xs ys : List V} {us ws : List Value}, Vals xs us → Vals ys ws → Vals (xs ++ ys) (us ++ ws)
  | _, _, _, _, .nil, s => s
  | _, _, _, _, .cons r t, s => .cons r (Vals.append t s)
theorem Vals.take : ∀ {xs : List V} {us : List Value} (n : Nat), Vals xs us → Vals (xs.take n) (us.take n)
  | _, _, 0, _ => .nil
  | _, _, _ + 1, .nil => .nil
  | _, _, n + 1, .cons r t => .cons r (Vals.take n t)
theorem Vals.drop : ∀ {xs : List V} {us : List Value} (n : Nat), Vals xs us → Vals (xs.drop n) (us.drop n)
  | _, _, 0, r => r
  | _, _, _ + 1, .nil => .nil
  | _, _, n + 1, .cons _ t => Vals.drop n t

noncomputable def RelO : Option V → Option Value → Prop
  | some v, some u => RelV v u
  | none, none => True
  | _, _ => False
noncomputable def KV {κ : Type} : List (κ × V) → List (κ × Value) → Prop := Paired fun (p : κ × V) (q : κ × Value) => p.1 = q.1 ∧ RelV p.2 q.2

noncomputable def kV : Key → V
  | .inl i => .int i
  | .inr x => .str x

inductive HO where
  /-- a list -/
  | lst (xs : List V)
  /-- a tuple (never changes) -/
  | tup (xs : List V)
  /-- a dict whose keys are ints and texts; one whose keys are tuples of ints and texts (the empty one is both) -/
  | dK (kvs : List (Key × V)) | dT (kvs : List (List Key × V))
  /-- a set of ints: its members, its size -/
  | set (S : Int → Bool) (n : Nat)
  /-- an instance of the class at C, its dict at dx, its attributes -/
  | ins (C dx : Addr) (fs : List (Str × V))
  /-- the dict of the instance at x -/
  | own (x : Addr)
  /-- the dict of an exception -/
  | xd (fs : List (Str × V))
  /-- a bound method, f of x -/
  | met (f x : Addr)
  /-- a range object lo, lo + 1, .. below hi -/
  | rng (lo hi : Int)
  /-- a thing that is known to the object (the script; a dict while a loop walks it): read, never written while it is so -/
  | frz (o : Obj) (u : HO)
  /-- a code object's table -/
  | tbl (ps : Array Value)
  /-- any other thing, by what is true of its one object (a def of one's own: SetO a S n := HO.ext fun h => ..) -/
  | ext (φ : Heap → Prop)

abbrev Hp := Addr → Option HO
noncomputable def upd (H : Hp) (a : Addr) (o : HO) : Hp := fun b => if b = a then some o else H b
theorem upd_same {H : Hp} {a : Addr} {o : HO} : upd H a o a = some o := by unfold upd; rw [if_pos rfl]
theorem upd_ne {H : Hp} {a b : Addr} {o : HO} (h : b ≠ a) : upd H a o b = H b := by unfold upd; rw [if_neg h]
theorem ne_of {H : Hp} {a b : Addr} {o u : HO} (h : H a = some o) (h' : H b = some u) (d : o ≠ u) : a ≠ b := by
  intro e; subst e; rw [h] at h'; exact d (Option.some.inj h')
theorem ne_of_none {H : Hp} {a b : Addr} {o : HO} (h : H a = some o) (h' : H b = none) : a ≠ b := by
  intro e; subst e; rw [h] at h'; cases h'

section
variable (P : Program) (w : World)
noncomputable def ObjOk (H : Hp) (h : Heap) (a : Addr) : HO → Prop
  | .lst xs => xs.length ≤ sizeLine ∧ ∃ (its : List Value) (n : Nat), Vals xs its ∧ h.get? a = some { cls := .type "list", data := .seq its.toArray n }
  | .tup xs => xs.length ≤ sizeLine ∧ ∃ its : List Value, Vals xs its ∧ IsTup h a its.toArray
  | .dK kvs => kvs.length ≤ sizeLine ∧ (a == sysModules) = false ∧ ∃ vs, KV kvs vs ∧ h.DictOf (mixKind P w) a vs
  | .dT kvs => kvs.length ≤ sizeLine ∧ (a == sysModules) = false ∧ ∃ xs : List (List Key × Addr × Value),
      Paired (fun (p : List Key × V) (q : List Key × Addr × Value) => p.1 = q.1 ∧ H q.2.1 = some (.tup (p.1.map kV)) ∧ RelV p.2 q.2.2) kvs xs ∧
      ∃ o es ep, h.get? a = some o ∧ o.ExactDict ∧ o.data = .dict es ep ∧ es.toList = xs.map (entryOfKey (tupleKind (mixKind P w))) ∧ (xs.map (·.1)).Nodup
  | .set S n => h.SetOf (intKind P w) a S n
  | .ins C dx fs => H dx = some (.own a) ∧ fs.length ≤ 1000 ∧ dx ≠ a ∧ h.get? a = some (PySem.W.instObj C dx) ∧
      ∃ mA, h.Ns1 dx mA ∧ (∀ f, RelO (fs.lookup f) (mA f)) ∧ PySem.Within mA (fs.map (·.1))
  | .own _ => ∃ o, h.get? a = some o
  | .xd fs => ∃ mA, h.Ns1 a mA ∧ ∀ f, RelO (fs.lookup f) (mA f)
  | .rng lo hi => ∃ t u v, h.get? a = some { cls := .type "range", data := .fields #[.int lo t, .int hi u, .int 1 v] }
  | .frz o u => h.get? a = some o ∧ ObjOk H h a u
  | .tbl ps => h.get? a = some { cls := .none, data := .fields ps }
  | .met f x => h.get? a = some (PySem.W.methodObj (.ref f) (.ref x))
  | .ext φ => φ h ∧ (∃ o, h.get? a = some o) ∧ ∀ h1 h2 : Heap, φ h1 → (∀ o, h1.get? a = some o → h2.get? a = some o) → φ h2
noncomputable def HOk (H : Hp) (h : Heap) : Prop := ∀ a o, H a = some o → ObjOk P w H h a o
end

section
variable {P : Program} {w : World} {H H' : Hp} {h h' : Heap} {a : Addr} {o : HO}
theorem ObjOk.lt (x : ObjOk P w H h a o) : a < h.objs.size := by
  cases o with
  | lst xs => obtain ⟨_, _, _, _, e⟩ := x; exact Heap.lt_size e
  | tup xs => obtain ⟨_, _, _, p⟩ := x; exact p.lt
  | dK kvs => obtain ⟨_, _, _, _, o, _, _, e, _⟩ := x; exact Heap.lt_size e
  | dT kvs => obtain ⟨_, _, _, _, o, _, _, e, _⟩ := x; exact Heap.lt_size e
  | set S n => obtain ⟨o, _, _, _, e, _⟩ := x; exact Heap.lt_size e
  | ins C dx fs => obtain ⟨_, _, _, e, _⟩ := x; exact Heap.lt_size e
  | own y => obtain ⟨_, e⟩ := x; exact Heap.lt_size e
  | xd fs => obtain ⟨_, ⟨_, _, _, e, _⟩, _⟩ := x; exact Heap.lt_size e
  | rng lo hi => obtain ⟨_, _, _, e⟩ := x; exact Heap.lt_size e
  | frz ob u => obtain ⟨e, _⟩ := x; exact Heap.lt_size e
  | tbl ps => exact Heap.lt_size (show h.get? a = some _ from x)
  | met f y => exact Heap.lt_size (show h.get? a = some _ from x)
  | ext φ => obtain ⟨_, ⟨_, e⟩, _⟩ := x; exact Heap.lt_size e
theorem Paired.mapP {α β : Type} {F G : α → β → Prop} : ∀ {l₁ : List α} {l₂ : List β}, Paired F l₁ l₂ → (∀ a b, F a b → G a b) → Paired G l₁ l₂
  | _, _, .nil, _ => .nil
  | _, _, .cons r t, f => .cons (f _ _ r) (Paired.mapP t f)
theorem ObjOk.stay (x : ObjOk P w H h a o) (k : ∀ b u, (b = a ∨ H b = some (.own a)) → h.get? b = some u → h'.get? b = some u)
    (ho : ∀ b, H b = some (.own a) → H' b = some (.own a)) (ht : ∀ b xs, H b = some (.tup xs) → H' b = some (.tup xs)) : ObjOk P w H' h' a o := by
  induction o with
  | lst xs => obtain ⟨z, its, n, r, e⟩ := x; exact ⟨z, its, n, r, k _ _ (.inl rfl) e⟩
  | tup xs => obtain ⟨z, its, r, ob, e, c⟩ := x; exact ⟨z, its, r, ob, k _ _ (.inl rfl) e, c⟩
  | dK kvs => obtain ⟨z, y, vs, r, ob, es, ep, e, c⟩ := x; exact ⟨z, y, vs, r, ob, es, ep, k _ _ (.inl rfl) e, c⟩
  | dT kvs =>
    obtain ⟨z, y, xs, r, ob, es, ep, e, c⟩ := x
    exact ⟨z, y, xs, Paired.mapP r fun p q z => ⟨z.1, ht _ _ z.2.1, z.2.2⟩, ob, es, ep, k _ _ (.inl rfl) e, c⟩
  | set S n => obtain ⟨ob, es, ep, t, e, c⟩ := x; exact ⟨ob, es, ep, t, k _ _ (.inl rfl) e, c⟩
  | ins C dx fs =>
    obtain ⟨d, z, ne, e, mA, ⟨od, es, ep, e2, c⟩, r⟩ := x
    exact ⟨ho _ d, z, ne, k _ _ (.inl rfl) e, mA, ⟨od, es, ep, k _ _ (.inr d) e2, c⟩, r⟩
  | own y => obtain ⟨ob, e⟩ := x; exact ⟨ob, k _ _ (.inl rfl) e⟩
  | xd fs => obtain ⟨mA, ⟨od, es, ep, e, c⟩, r⟩ := x; exact ⟨mA, ⟨od, es, ep, k _ _ (.inl rfl) e, c⟩, r⟩
  | rng lo hi => obtain ⟨t, u, v, e⟩ := x; exact ⟨t, u, v, k _ _ (.inl rfl) e⟩
  | frz ob u ih => obtain ⟨e, q⟩ := x; exact ⟨k _ _ (.inl rfl) e, ih q⟩
  | tbl ps =>
    have e : h.get? a = some { cls := .none, data := .fields ps } := x
    show h'.get? a = some { cls := .none, data := .fields ps }
    exact k a _ (.inl rfl) e
  | met f y =>
    have e : h.get? a = some (PySem.W.methodObj (.ref f) (.ref y)) := x
    show h'.get? a = some (PySem.W.methodObj (.ref f) (.ref y))
    exact k a _ (.inl rfl) e
  | ext φ => obtain ⟨p, ⟨o, e⟩, st⟩ := x; exact ⟨st _ _ p fun o q => k _ _ (.inl rfl) q, ⟨o, k _ _ (.inl rfl) e⟩, st⟩
theorem HOk.lt (x : HOk P w H h) (e : H a = some o) : a < h.objs.size := (x a o e).lt
theorem HOk.fresh (x : HOk P w H h) (e : h.objs.size ≤ a) : H a = none := by
  cases q : H a with
  | none => rfl
  | some u => exact absurd (Nat.lt_of_lt_of_le (x.lt q) e) (Nat.lt_irrefl _)
theorem HOk.kept (x : HOk P w H h) (k : ∀ b u, h.get? b = some u → h'.get? b = some u) : HOk P w H h' := fun a o e =>
  (x a o e).stay (fun b u _ q => k b u q) (fun _ q => q) fun _ _ q => q
theorem HOk.laid (x : HOk P w H h) (k : ∀ b u, h.get? b = some u → h'.get? b = some u) (hp : h.objs.size ≤ a) (new : ObjOk P w (upd H a o) h' a o) : HOk P w (upd H a o) h' := fun b u e => by
  have hn := x.fresh hp
  by_cases hb : b = a
  · subst hb; rw [upd_same] at e; cases e; exact new
  · rw [upd_ne hb] at e
    exact (x b u e).stay (fun c v _ q => k c v q) (fun c q => by rw [upd_ne (ne_of_none q hn)]; exact q) fun c xs q => by rw [upd_ne (ne_of_none q hn)]; exact q
end

noncomputable def Rd (H : Hp) (a : Addr) (u : HO) : Prop := H a = some u ∨ ∃ o, H a = some (.frz o u)
theorem Rd.ok {P : Program} {w : World} {H : Hp} {h : Heap} {a : Addr} {u : HO} (r : Rd H a u) (x : HOk P w H h) : ObjOk P w H h a u := by
  rcases r with r | ⟨o, r⟩
  · exact x a u r
  · obtain ⟨_, q⟩ := x a _ r
    exact q
noncomputable def Mut : Option HO → Prop
  | some (.lst _) => True
  | some (.dK _) => True
  | some (.dT _) => True
  | some (.set _ _) => True
  | some (.ins _ _ _) => True
  | some (.ext _) => True
  | _ => False
section
variable {P : Program} {w : World} {H : Hp} {h h' : Heap} {x e : Addr} {o' : HO}
theorem HOk.write (ok : HOk P w H h) (mu : Mut (H x)) (he : e = x ∨ H e = some (.own x)) (k : ∀ b u, b ≠ e → h.get? b = some u → h'.get? b = some u) (heo : ∃ u, h'.get? e = some u)
    (new : ObjOk P w (upd H x o') h' x o') : HOk P w (upd H x o') h' := fun b u q => by
  have nown : ∀ c y, H c = some (.own y) → c ≠ x := fun c y r z => by subst z; rw [r] at mu; exact mu
  have ntup : ∀ c xs, H c = some (.tup xs) → c ≠ x := fun c xs r z => by subst z; rw [r] at mu; exact mu
  by_cases hb : b = x
  · subst hb; rw [upd_same] at q; cases q; exact new
  · rw [upd_ne hb] at q
    by_cases hbe : b = e
    · have q' : H b = some (.own x) := by
        rcases he with z | z
        · exact absurd (hbe.trans z) hb
        · rw [hbe]; exact z
      rw [q] at q'; cases q'
      obtain ⟨v, hv⟩ := heo
      exact ⟨v, by rw [hbe]; exact hv⟩
    · refine (ok b u q).stay (fun c v hc r => k c v ?_ r) (fun c r => by rw [upd_ne (nown c b r)]; exact r) fun c xs r => by rw [upd_ne (ntup c xs r)]; exact r
      rcases hc with rfl | hc
      · exact hbe
      · rintro rfl
        rcases he with z | z
        · exact nown c b hc z
        · rw [hc] at z; cases z; exact hb rfl
end

structure Un (fs ex : List Addr) (H H' : Hp) (h h' : Heap) : Prop where
  keep : ∀ b o, h.get? b = some o → H b = none → b ∉ fs → b ∉ ex → h'.get? b = some o
  slot : ∀ b o, h.get? b = some o → H b = none → b ∈ fs → b ∉ ex → ∃ sl, h'.get? b = some { o with slots := sl }
  free : ∀ b o, h.get? b = some o → H b = none → b ∉ ex → H' b = none
  there : ∀ b o, h.get? b = some o → b ∉ ex → ∃ o', h'.get? b = some o'
  tups : ∀ b xs, H b = some (.tup xs) → H' b = some (.tup xs)
  frzs : ∀ b o u, H b = some (.frz o u) → H' b = some (.frz o u)
  tbls : ∀ b ps, H b = some (.tbl ps) → ∃ more, H' b = some (.tbl (ps ++ more))
section
variable {fs fs' ex ex' : List Addr} {H H1 H2 : Hp} {h h1 h2 h' : Heap} {a x e : Addr} {o : HO}
theorem Un.any (u : Un fs ex H H1 h h1) {b : Addr} {ob : Obj} (q : h.get? b = some ob) (n : H b = none) (hx : b ∉ ex) : ∃ sl, h1.get? b = some { ob with slots := sl } := by
  by_cases hb : b ∈ fs
  · exact u.slot b ob q n hb hx
  · exact ⟨ob.slots, u.keep b ob q n hb hx⟩
theorem Un.kept (k : ∀ b u, h.get? b = some u → h'.get? b = some u) : Un fs ex H H h h' :=
  ⟨fun b ob q _ _ _ => k b ob q, fun b ob q _ _ _ => ⟨ob.slots, k b ob q⟩, fun _ _ _ n _ => n, fun b ob q _ => ⟨ob, k b ob q⟩, fun _ _ q => q, fun _ _ _ q => q, fun _ ps q => ⟨#[], by rw [q]; simp⟩⟩
theorem Un.refl : Un fs ex H H h h := Un.kept fun _ _ q => q
theorem Un.laid (k : ∀ b u, h.get? b = some u → h'.get? b = some u) (hp : h.objs.size ≤ a) (hn : H a = none) : Un fs ex H (upd H a o) h h' where
  keep := fun b u q _ _ _ => k b u q
  slot := fun b u q _ _ _ => ⟨u.slots, k b u q⟩
  free := fun b u q n _ => by rw [upd_ne (Nat.ne_of_lt (Nat.lt_of_lt_of_le (Heap.lt_size q) hp))]; exact n
  there := fun b u q _ => ⟨u, k b u q⟩
  tups := fun b xs q => by rw [upd_ne (ne_of_none q hn)]; exact q
  frzs := fun b u xs q => by rw [upd_ne (ne_of_none q hn)]; exact q
  tbls := fun b ps q => ⟨#[], by rw [upd_ne (ne_of_none q hn), q]; simp⟩
theorem Un.write (mu : Mut (H x)) (he : e = x ∨ H e = some (.own x)) (k : ∀ b u, b ≠ e → h.get? b = some u → h'.get? b = some u) (heo : ∃ u, h'.get? e = some u) : Un fs ex H (upd H x o) h h' := by
  have hx : ∀ b, H b = none → b ≠ x := fun b n z => by subst z; rw [n] at mu; exact mu
  have hb : ∀ b, H b = none → b ≠ e := fun b n z => by
    subst z
    rcases he with r | r
    · exact hx b n r
    · rw [n] at r; cases r
  have hm : ∀ b u, H b = some u → ¬ Mut (some u) → b ≠ x := fun b u q nm z => by subst z; rw [q] at mu; exact nm mu
  refine ⟨fun b u q n _ _ => k b u (hb b n) q, fun b u q n _ _ => ⟨u.slots, k b u (hb b n) q⟩, fun b u q n _ => by rw [upd_ne (hx b n)]; exact n, fun b u q _ => ?_,
    fun b xs q => by rw [upd_ne (hm b _ q fun z => z)]; exact q, fun b u xs q => by rw [upd_ne (hm b _ q fun z => z)]; exact q, fun b ps q => ⟨#[], by rw [upd_ne (hm b _ q fun z => z), q]; simp⟩⟩
  by_cases hbe : b = e
  · subst hbe; exact heo
  · exact ⟨u, k b u hbe q⟩
end

noncomputable def trk (h : Heap) (H : Hp) : List Addr := (List.range h.objs.size).filter fun a => (H a).isSome
noncomputable def hidT (h : Heap) (H : Hp) : Heap := PySem.W.hideAll h (trk h H)
theorem hidT_size (h : Heap) (H : Hp) : (hidT h H).objs.size = h.objs.size := PySem.W.hideAll_size _ _
theorem hidT_get {h : Heap} {H : Hp} {b : Addr} {o : Obj} (e : h.get? b = some o) (n : H b = none) : (hidT h H).get? b = some o :=
  PySem.W.hideAll_get _ e fun hm => by
    have q : (H b).isSome = true := (List.mem_filter.mp hm).2
    rw [n] at q; simp at q
theorem of_hidT {h : Heap} {H : Hp} {b : Addr} {o : Obj} (e : (hidT h H).get? b = some o) : h.get? b = some o ∧ H b = none := by
  have e' : h.get? b = some o := PySem.W.of_hideAll (trk h H) e
  refine ⟨e', ?_⟩
  cases q : H b with
  | none => rfl
  | some x =>
    have hm : b ∈ trk h H := List.mem_filter.mpr ⟨List.mem_range.mpr (Heap.lt_size e'), by simp [q]⟩
    have z : (hidT h H).get? b = none := PySem.W.hideAll_none (trk h H) hm
    rw [z] at e; cases e

noncomputable def allNews (g h : Heap) (L : Addr) : List (Addr × Obj) := (List.range h.objs.size).filterMap fun a => if a = L ∨ (g.get? a).isSome = true then none else (h.get? a).map fun o => (a, o)
noncomputable def rest (g h : Heap) (L d : Addr) : List (Addr × Obj) := (allNews g h L).filter fun p => decide (p.1 ≠ d)
end L2

namespace L2
open PySem PySem.Spec PyProof.Rows

structure Mod (K : PySem.W.Frag) (mg : Str → Option Value) (base : Heap) : Prop where
  kin : K.In base
  glob : base.Ns mainGlobals mg
  blt : ∃ mb, base.Ns builtinsNs mb ∧ ∀ x : Str, x ≠ "__name__" → mb x = bootBuiltins x
  nolimit : base.NoLimit

/-- the context: a def's body (or a comprehension's block) running. base: fixed through the whole law; s₀, H₀: the entry; outer: the frames whose slots others may change (a def's callers); stack: all frames that run;
   ex: iterators that were made ahead of the entry and are walked here (a comprehension's); fn: the names whose cells were made at the entry (a def: all; a comprehension's block: its own); calm: not within an except suite; pn: pins that every state bears; xe: what is wanted of an exception that leaves the code -/
structure Cx where
  prog : Program
  w : World
  K : PySem.W.Frag
  mg : Str → Option Value
  base : Heap
  A : Around
  N : List Str
  s₀ : Shared
  H₀ : Hp
  env : Env
  outer : List Env
  stack : List Env
  ex : List Addr
  fn : Str → Bool
  calm : Bool
  pn : List (Addr × Obj)
  xe : Value → Shared → Prop
noncomputable def frs (l : List Env) : List Addr := l.filterMap (·.frame)
abbrev Cx.fs (X : Cx) : List Addr := frs X.outer

noncomputable def Vis (sc : Scope) (x : Str) : Prop := sc.names.lookup x = some .local ∨ sc.names.lookup x = some .cell ∨ sc.names.lookup x = some .free
noncomputable def Loc (sc : Scope) (x : Str) : Prop := sc.names.lookup x = some .local ∨ sc.names.lookup x = some .cell
noncomputable def Look (env : Env) (h : Heap) (m : Str → Option Value) (x : Str) (u : Value) : Prop :=
  (env.kindOf x = some .local ∧ m x = some u) ∨ ((env.kindOf x = some .cell ∨ env.kindOf x = some .free) ∧ ∃ c, env.cells.lookup x = some c ∧ h.IsCell c (some u))

structure Cx.Ok (X : Cx) : Prop where
  mod : Mod X.K X.mg X.base
  kind : X.env.scope.kind = .function
  glob : X.env.globals = mainGlobals
  blt : X.env.builtins = builtinsNs
  above : X.s₀.heap.objs.size ≤ X.env.locals
  inj : ∀ x y c, X.env.cells.lookup x = some c → X.env.cells.lookup y = some c → x = y
  has : ∀ x, (X.env.kindOf x = some .cell ∨ X.env.kindOf x = some .free) → ∃ c, X.env.cells.lookup x = some c
  cab : ∀ x c, X.fn x = true → X.env.cells.lookup x = some c → X.s₀.heap.objs.size ≤ c
  hd : X.calm = true → X.A.handled = none
  frames : X.A.frames = some X.stack
  stk : X.stack = X.outer ∨ (X.stack = X.env :: X.outer ∧ X.env.frame = some X.env.locals)
  exf : ∀ b ∈ X.ex, b ≠ X.env.locals ∧ ∀ x c, X.env.cells.lookup x = some c → c ≠ b
  bs : ∀ b o, X.base.get? b = some o → X.s₀.heap.get? b = some o ∧ X.H₀ b = none
  bsz : X.base.objs.size ≤ X.s₀.heap.objs.size
  noex : ∀ b o, X.base.get? b = some o → b ∉ X.ex
  exfs : ∀ b ∈ X.ex, b ∉ X.fs
  funs : X.s₀.heap.FunFrames X.base X.outer
  frf : ∀ b ∈ X.fs, X.H₀ b = none

structure Inv (X : Cx) (pins : List (Addr × Obj)) (σ : List (Option V)) (H : Hp) (s : Shared) : Prop where
  ok : X.Ok
  os : s.os = X.s₀.os
  bare : AllBare s.gens
  base : Un X.fs X.ex X.H₀ H X.s₀.heap s.heap
  loc : ∃ m, s.heap.Ns X.env.locals m ∧ ∀ (i : Nat) (x : Str) (v : V), X.N[i]? = some x → σ[i]? = some (some v) → Vis X.env.scope x → ∃ u, RelV v u ∧ Look X.env s.heap m x u
  cell : ∀ x c, X.env.cells.lookup x = some c → ∃ v, s.heap.IsCell c v
  free : H X.env.locals = none
  freeC : ∀ x c, X.env.cells.lookup x = some c → H c = none
  pin : ∀ p ∈ X.pn ++ pins, s.heap.get? p.1 = some p.2 ∧ H p.1 = none ∧ p.1 ≠ X.env.locals ∧ p.1 ∉ X.fs ∧ ∀ v, p.2.data ≠ .cell v
  hok : HOk X.prog X.w H s.heap
  len : σ.length = X.N.length

section
variable {X : Cx} {pins : List (Addr × Obj)} {σ : List (Option V)} {H H' : Hp} {s : Shared} {h' : Heap}

theorem Cx.Ok.nofr (ok : X.Ok) {b : Addr} {o : Obj} (e : X.base.get? b = some o) : b ∉ X.fs := fun hb => by
  have := (ok.funs.mem hb).1
  rw [e] at this; cases this
theorem Inv.bs (I : Inv X pins σ H s) : ∀ b o, X.base.get? b = some o → s.heap.get? b = some o ∧ H b = none := fun b o e =>
  ⟨I.base.keep b o (I.ok.bs b o e).1 (I.ok.bs b o e).2 (I.ok.nofr e) (I.ok.noex b o e), I.base.free b o (I.ok.bs b o e).1 (I.ok.bs b o e).2 (I.ok.noex b o e)⟩
theorem Inv.bk (I : Inv X pins σ H s) : ∀ b o, X.base.get? b = some o → s.heap.get? b = some o := fun b o e => (I.bs b o e).1
theorem Inv.mod (I : Inv X pins σ H s) : Mod X.K X.mg X.base := I.ok.mod
theorem Inv.kIn (I : Inv X pins σ H s) : X.K.In s.heap := I.ok.mod.kin.keeps I.bk
theorem Inv.fr (I : Inv X pins σ H s) : ∃ m, Fr X.base X.env.locals s.heap m :=
  let ⟨m, hn, _⟩ := I.loc
  ⟨m, hn, I.bk, Nat.le_trans I.ok.bsz I.ok.above⟩
theorem Inv.lt (I : Inv X pins σ H s) : X.env.locals < s.heap.objs.size := let ⟨_, hn, _⟩ := I.loc; hn.lt
theorem Inv.sz (I : Inv X pins σ H s) : X.s₀.heap.objs.size ≤ s.heap.objs.size := Nat.le_trans I.ok.above (Nat.le_of_lt I.lt)
theorem Inv.nofs (I : Inv X pins σ H s) {a : Addr} (h : s.heap.objs.size ≤ a) : a ∉ X.fs := fun hb => by
  obtain ⟨_, o, ho, _⟩ := I.ok.funs.mem hb
  exact absurd (Nat.lt_of_lt_of_le (Heap.lt_size ho) (Nat.le_trans I.sz h)) (Nat.lt_irrefl _)
theorem Inv.cne (I : Inv X pins σ H s) : ∀ x c, X.env.cells.lookup x = some c → c ≠ X.env.locals := fun x c e z => by
  obtain ⟨v, o, ho, hd⟩ := I.cell x c e
  obtain ⟨m, ⟨o', es, ep, ho', hd', _⟩, _⟩ := I.loc
  rw [z, ho'] at ho; cases ho; rw [hd'] at hd; cases hd
theorem Inv.funs (I : Inv X pins σ H s) : s.heap.FunFrames X.base X.outer := by
  have all : ∀ (l : List Env), (∀ b ∈ frs l, b ∈ X.fs) → X.s₀.heap.FunFrames X.base l → s.heap.FunFrames X.base l := by
    intro l
    induction l with
    | nil => intro _ _; trivial
    | cons env r ih =>
      intro hs hl
      obtain ⟨hk, ⟨L, o, hf, hn, ho, hd⟩, hr⟩ := hl
      have hL : L ∈ X.fs := hs L (by unfold frs; rw [List.filterMap_cons, hf]; exact List.mem_cons_self)
      obtain ⟨sl, e⟩ := I.base.slot L o ho (I.ok.frf L hL) hL fun z => I.ok.exfs L z hL
      exact ⟨hk, ⟨L, _, hf, hn, e, hd⟩, ih (fun b hb => hs b (by unfold frs; rw [List.filterMap_cons, hf]; exact List.mem_cons_of_mem _ hb)) hr⟩
  exact all X.outer (fun _ hb => hb) I.ok.funs

theorem Inv.stack (I : Inv X pins σ H s) : s.heap.FunFrames X.base X.stack := by
  rcases I.ok.stk with e | ⟨e, hf⟩
  · rw [e]; exact I.funs
  · rw [e]
    obtain ⟨m, hn, _⟩ := I.loc
    refine .cons (by rw [I.ok.kind]; decide) hf hn ?_ I.funs
    exact Heap.get?_none_of_le (Nat.le_trans I.ok.bsz I.ok.above)
theorem Inv.stkSub (I : Inv X pins σ H s) : ∀ b ∈ frs X.stack, b ∈ X.env.locals :: X.fs := fun b hb => by
  rcases I.ok.stk with e | ⟨e, hf⟩
  · rw [e] at hb; exact List.mem_cons_of_mem _ hb
  · rw [e] at hb
    unfold frs at hb
    rw [List.filterMap_cons, hf] at hb
    exact hb
theorem Inv.stkFree (I : Inv X pins σ H s) : ∀ b ∈ frs X.stack, H b = none := fun b hb => by
  rcases List.mem_cons.mp (I.stkSub b hb) with e | hb
  · rw [e]; exact I.free
  · obtain ⟨_, o, ho, _⟩ := I.ok.funs.mem hb
    exact I.base.free b o ho (I.ok.frf b hb) fun z => I.ok.exfs b z hb

theorem Inv.step {g' : Array GenState} {t' : Nat} {d' : Drawn} {ch : List Addr} (I : Inv X pins σ H s)
    (hch : ∀ b ∈ ch, (b ∈ X.ex ∨ X.s₀.heap.objs.size ≤ b) ∧ b ≠ X.env.locals ∧ (∀ x c, X.env.cells.lookup x = some c → c ≠ b) ∧ ∀ p ∈ X.pn ++ pins, p.1 ≠ b)
    (keep : ∀ b o, b ≠ X.env.locals → b ∉ X.fs → b ∉ ch → s.heap.get? b = some o → H b = none → h'.get? b = some o)
    (slot : ∀ b o, b ≠ X.env.locals → b ∈ X.fs → b ∉ ch → s.heap.get? b = some o → H b = none → ∃ sl, h'.get? b = some { o with slots := sl }) (free : ∀ b o, b ∉ ch → s.heap.get? b = some o → H b = none → H' b = none)
    (there : ∀ b o, b ∉ ch → s.heap.get? b = some o → ∃ o', h'.get? b = some o')
    (tups : ∀ b xs, H b = some (.tup xs) → H' b = some (.tup xs)) (frzs : ∀ b o u, H b = some (.frz o u) → H' b = some (.frz o u)) (tbls : ∀ b ps, H b = some (.tbl ps) → ∃ more, H' b = some (.tbl (ps ++ more)))
    (ns : ∀ m, s.heap.Ns X.env.locals m → h'.Ns X.env.locals m) (hok : HOk X.prog X.w H' h') (hg : AllBare g') :
    Inv X pins σ H' { s with heap := h', gens := g', drawn := d', toks := t' } := by
  have neL : ∀ b o, X.s₀.heap.get? b = some o → b ≠ X.env.locals := fun b o e => Nat.ne_of_lt (Nat.lt_of_lt_of_le (Heap.lt_size e) I.ok.above)
  have neC : ∀ b o, X.s₀.heap.get? b = some o → b ∉ X.ex → b ∉ ch := fun b o e hx hb => by
    rcases (hch b hb).1 with z | z
    · exact hx z
    · exact absurd (Nat.lt_of_lt_of_le (Heap.lt_size e) z) (Nat.lt_irrefl _)
  have cellK : ∀ x c, X.env.cells.lookup x = some c → ∀ v, s.heap.IsCell c v → h'.IsCell c v := fun x c e v ⟨o, ho, hd⟩ => by
    have nch : c ∉ ch := fun z => (hch c z).2.2.1 x c e rfl
    by_cases hc : c ∈ X.fs
    · obtain ⟨sl, q⟩ := slot c o (I.cne x c e) hc nch ho (I.freeC x c e)
      exact ⟨_, q, hd⟩
    · exact ⟨o, keep c o (I.cne x c e) hc nch ho (I.freeC x c e), hd⟩
  refine ⟨I.ok, I.os, hg, ⟨fun b o e n hb hx => ?_, fun b o e n hb hx => ?_, fun b o e n hx => ?_, fun b o e hx => ?_, fun b xs e => tups b xs (I.base.tups b xs e), fun b o xs e => frzs b o xs (I.base.frzs b o xs e), fun b ps e => ?_⟩, ?_, fun x c e => ?_, ?_, fun x c e => ?_, fun p hp => ?_, hok, I.len⟩
  · exact keep b o (neL b o e) hb (neC b o e hx) (I.base.keep b o e n hb hx) (I.base.free b o e n hx)
  · obtain ⟨sl, e1⟩ := I.base.slot b o e n hb hx
    obtain ⟨sl', e2⟩ := slot b _ (neL b o e) hb (neC b o e hx) e1 (I.base.free b o e n hx)
    exact ⟨sl', e2⟩
  · obtain ⟨o', e1⟩ := I.base.there b o e hx
    exact free b o' (neC b o e hx) e1 (I.base.free b o e n hx)
  · obtain ⟨o', e1⟩ := I.base.there b o e hx
    exact there b o' (neC b o e hx) e1
  · obtain ⟨m1, e1⟩ := I.base.tbls b ps e
    obtain ⟨m2, e2⟩ := tbls b _ e1
    exact ⟨m1 ++ m2, by rw [e2, Array.append_assoc]⟩
  · obtain ⟨m, hn, hl⟩ := I.loc
    refine ⟨m, ns m hn, fun i x v e1 e2 e3 => ?_⟩
    obtain ⟨u, r, l⟩ := hl i x v e1 e2 e3
    refine ⟨u, r, ?_⟩
    rcases l with l | ⟨k, c, e, z⟩
    · exact .inl l
    · exact .inr ⟨k, c, e, cellK x c e _ z⟩
  · obtain ⟨v, z⟩ := I.cell x c e
    exact ⟨v, cellK x c e v z⟩
  · obtain ⟨m, ⟨o, _, _, ho, _⟩, _⟩ := I.loc
    exact free _ o (fun z => (hch _ z).2.1 rfl) ho I.free
  · obtain ⟨v, o, ho, hd⟩ := I.cell x c e
    exact free c o (fun z => (hch c z).2.2.1 x c e rfl) ho (I.freeC x c e)
  · obtain ⟨e, n, ne, nf, d⟩ := I.pin p hp
    have nch : p.1 ∉ ch := fun z => (hch p.1 z).2.2.2 p hp rfl
    exact ⟨keep p.1 p.2 ne nf nch e n, free p.1 p.2 nch e n, ne, nf, d⟩
theorem Inv.un {t' : Nat} (I : Inv X pins σ H s) (u : Un X.fs [] H H' s.heap h') (hok : HOk X.prog X.w H' h') : Inv X pins σ H' { s with heap := h', toks := t' } := by
  obtain ⟨m, ⟨o, es, ep, ho, r⟩, _⟩ := id I.loc
  obtain ⟨sl, hL⟩ := u.any ho I.free (by simp)
  exact I.step (g' := s.gens) (d' := s.drawn) (ch := []) (fun _ z => nomatch z) (fun b o _ hb _ e n => u.keep b o e n hb (by simp)) (fun b o _ hb _ e n => u.slot b o e n hb (by simp)) (fun b o _ e n => u.free b o e n (by simp)) (fun b o _ e => u.there b o e (by simp)) u.tups u.frzs u.tbls (fun m' hm => by
    obtain ⟨o', es', ep', ho', r'⟩ := hm
    rw [ho] at ho'; cases ho'
    exact ⟨_, es', ep', hL, r'⟩) hok I.bare
theorem Inv.call {g' : Array GenState} {t' : Nat} {d' : Drawn} {ch : List Addr} (I : Inv X pins σ H s) (u : Un (frs X.stack) ch H H' s.heap h') (hok : HOk X.prog X.w H' h') (hg : AllBare g')
    (hch : ∀ b ∈ ch, (b ∈ X.ex ∨ X.s₀.heap.objs.size ≤ b) ∧ b ≠ X.env.locals ∧ (∀ x c, X.env.cells.lookup x = some c → c ≠ b) ∧ ∀ p ∈ X.pn ++ pins, p.1 ≠ b) :
    Inv X pins σ H' { s with heap := h', gens := g', drawn := d', toks := t' } := by
  obtain ⟨m, ⟨o, es, ep, ho, r⟩, _⟩ := id I.loc
  obtain ⟨sl, hL⟩ := u.any ho I.free fun z => (hch _ z).2.1 rfl
  exact I.step (ch := ch) hch (fun b o hL hb hc e n => u.keep b o e n (fun z => (List.mem_cons.mp (I.stkSub b z)).elim hL hb) hc) (fun b o _ _ hc e n => u.any e n hc) (fun b o hc e n => u.free b o e n hc) (fun b o hc e => u.there b o e hc) u.tups u.frzs u.tbls (fun m' hm => by
    obtain ⟨o', es', ep', ho', r'⟩ := hm
    rw [ho] at ho'; cases ho'
    exact ⟨_, es', ep', hL, r'⟩) hok hg
theorem Inv.turned {t' : Nat} {it : Addr} (I : Inv X pins σ H s) (k : ∀ b o, b ≠ it → s.heap.get? b = some o → h'.get? b = some o) (hn : H it = none) (hL : it ≠ X.env.locals)
    (h1 : it ∈ X.ex ∨ X.s₀.heap.objs.size ≤ it) (h2 : ∀ x c, X.env.cells.lookup x = some c → c ≠ it) (h3 : ∀ p ∈ X.pn ++ pins, p.1 ≠ it) : Inv X pins σ H { s with heap := h', toks := t' } := by
  have nit : ∀ b u, H b = some u → b ≠ it := fun b u e z => by rw [z, hn] at e; cases e
  refine I.step (g' := s.gens) (d' := s.drawn) (ch := [it]) (fun b hb => ?_) (fun b o _ _ hc e _ => k b o (fun z => hc (by simp [z])) e) (fun b o _ _ hc e _ => ⟨o.slots, k b o (fun z => hc (by simp [z])) e⟩) (fun _ _ _ _ n => n)
    (fun b o hc e => ⟨o, k b o (fun z => hc (by simp [z])) e⟩) (fun _ _ e => e) (fun _ _ _ e => e) (fun b ps e => ⟨#[], by rw [e]; simp⟩) (fun m hm => ?_) (fun b u e => ?_) I.bare
  · have e : b = it := by simpa using hb
    subst e
    exact ⟨h1, hL, h2, h3⟩
  · obtain ⟨o, es, ep, ho, r⟩ := hm
    exact ⟨o, es, ep, k _ o (Ne.symm hL) ho, r⟩
  · refine (I.hok b u e).stay (fun c v hc q => k c v ?_ q) (fun _ q => q) fun _ _ q => q
    rcases hc with z | z
    · rw [z]; exact nit b u e
    · exact nit c _ z
theorem Inv.tok (I : Inv X pins σ H s) (t : Nat) : Inv X pins σ H { s with toks := t } := I.un (h' := s.heap) (t' := t) Un.refl I.hok
theorem Inv.kept {t' : Nat} (I : Inv X pins σ H s) (k : ∀ b u, s.heap.get? b = some u → h'.get? b = some u) : Inv X pins σ H { s with heap := h', toks := t' } := I.un (Un.kept k) (I.hok.kept k)
theorem Inv.laid {a : Addr} {o : HO} {t' : Nat} (I : Inv X pins σ H s) (k : ∀ b u, s.heap.get? b = some u → h'.get? b = some u) (hp : s.heap.objs.size ≤ a) (new : ObjOk X.prog X.w (upd H a o) h' a o) :
    Inv X pins σ (upd H a o) { s with heap := h', toks := t' } := I.un (Un.laid k hp (I.hok.fresh hp)) (I.hok.laid k hp new)
theorem Inv.write {x e : Addr} {o : HO} {t' : Nat} (I : Inv X pins σ H s) (mu : Mut (H x)) (he : e = x ∨ H e = some (.own x)) (k : ∀ b u, b ≠ e → s.heap.get? b = some u → h'.get? b = some u) (heo : ∃ u, h'.get? e = some u)
    (new : ObjOk X.prog X.w (upd H x o) h' x o) : Inv X pins σ (upd H x o) { s with heap := h', toks := t' } := I.un (Un.write mu he k heo) (I.hok.write mu he k heo new)
theorem Inv.weak {σ' : List (Option V)} (I : Inv X pins σ H s) (hl : σ'.length = σ.length) (w : ∀ (i : Nat) v, σ'[i]? = some (some v) → σ[i]? = some (some v)) : Inv X pins σ' H s :=
  ⟨I.ok, I.os, I.bare, I.base, let ⟨m, hn, hl'⟩ := I.loc; ⟨m, hn, fun i x v e1 e2 e3 => hl' i x v e1 (w i v e2) e3⟩, I.cell, I.free, I.freeC, I.pin, I.hok, hl.trans I.len⟩
theorem Inv.pins_of {pins' : List (Addr × Obj)} (I : Inv X pins σ H s) (h : ∀ p ∈ pins', s.heap.get? p.1 = some p.2 ∧ H p.1 = none ∧ p.1 ≠ X.env.locals ∧ p.1 ∉ X.fs ∧ ∀ v, p.2.data ≠ .cell v) : Inv X pins' σ H s :=
  ⟨I.ok, I.os, I.bare, I.base, I.loc, I.cell, I.free, I.freeC, fun p hp => (List.mem_append.mp hp).elim (fun z => I.pin p (List.mem_append_left _ z)) (h p), I.hok, I.len⟩

theorem nodup_ix {N : List Str} (hN : N.Nodup) {i j : Nat} {x : Str} (a : N[i]? = some x) (b : N[j]? = some x) : i = j := by
  obtain ⟨h1, e1⟩ := List.getElem?_eq_some_iff.mp a
  obtain ⟨h2, e2⟩ := List.getElem?_eq_some_iff.mp b
  exact (List.getElem_inj hN).mp (e1.trans e2.symm)

theorem store_ok2 {M : Model} {A : Around} {E : Value → Shared → Prop} {i : Nat} {x : Str} {v : V} {u : Value} {Q : Unit → Shared → Prop} (I : Inv X pins σ H s) (hN : X.N.Nodup) (hi : X.N[i]? = some x) (hx : Loc X.env.scope x) (r : RelV v u)
    (h : ∀ s', Inv X pins (σ.set i (some v)) H s' → (∃ a, Heap.SameBut a s.heap s'.heap ∧ (a = X.env.locals ∨ X.env.cells.lookup x = some a)) → Q () s') (hf : X.fn x = true ∨ X.env.scope.names.lookup x = some .local := by first | exact .inl rfl | exact .inr rfl | assumption) : wpAny M A (storeName X.env x u) Q E s := by
  obtain ⟨m, hn, hl⟩ := id I.loc
  have hcls : (X.env.scope.kind == .class || (X.env.scope.kind == .module && X.env.locals != X.env.globals)) = false := by rw [I.ok.kind]; rfl
  have hiσ : i < σ.length := by rw [I.len]; exact (List.getElem?_eq_some_iff.mp hi).1
  have cne := I.cne
  have tracked : ∀ {a : Addr} {h' : Heap}, (∃ o, s.heap.get? a = some o ∧ H a = none) → Heap.SameBut a s.heap h' → HOk X.prog X.w H h' := fun {a h'} ha hs b ob e => by
    obtain ⟨_, _, hfree⟩ := ha
    refine (I.hok b ob e).stay (fun c w' hc q => (hs.2 c ?_).trans q) (fun _ q => q) fun _ _ q => q
    rintro rfl
    rcases hc with rfl | hc
    · rw [hfree] at e; cases e
    · rw [hfree] at hc; cases hc
  rcases hx with hk | hk
  · refine wpAny_storeName_local hk hn (fun h' hn' hs => ?_) hcls
    obtain ⟨oL, _, _, hoL, _⟩ := id hn
    refine h _ ⟨I.ok, I.os, I.bare, ⟨fun b o e n hb hx => ?_, fun b o e n hb hx => ?_, I.base.free, fun b o e hx => ?_, I.base.tups, I.base.frzs, I.base.tbls⟩, ⟨_, hn', fun j y v' e1 e2 e3 => ?_⟩, fun y c e => ?_, I.free, I.freeC, fun p hp => ?_, tracked ⟨oL, hoL, I.free⟩ hs, by simpa using I.len⟩ ⟨_, hs, .inl rfl⟩
    · exact (hs.2 b (Nat.ne_of_lt (Nat.lt_of_lt_of_le (Heap.lt_size e) I.ok.above))).trans (I.base.keep b o e n hb hx)
    · obtain ⟨sl, e1⟩ := I.base.slot b o e n hb hx
      exact ⟨sl, (hs.2 b (Nat.ne_of_lt (Nat.lt_of_lt_of_le (Heap.lt_size e) I.ok.above))).trans e1⟩
    · obtain ⟨o', e1⟩ := I.base.there b o e hx
      exact ⟨o', (hs.2 b (Nat.ne_of_lt (Nat.lt_of_lt_of_le (Heap.lt_size e) I.ok.above))).trans e1⟩
    · by_cases hj : j = i
      · subst hj
        rw [hi] at e1; cases e1
        rw [List.getElem?_set_self hiσ] at e2
        cases e2
        exact ⟨u, r, .inl ⟨hk, by simp⟩⟩
      · rw [List.getElem?_set_ne (Ne.symm hj)] at e2
        obtain ⟨u', r', q⟩ := hl j y v' e1 e2 e3
        refine ⟨u', r', ?_⟩
        rcases q with ⟨k, e⟩ | ⟨k, c, e, z⟩
        · refine .inl ⟨k, ?_⟩
          have : y ≠ x := fun e => hj (nodup_ix hN e1 (e ▸ hi))
          simp [this, e]
        · exact .inr ⟨k, c, e, z.sameBut hs (cne y c e)⟩
    · obtain ⟨w', z⟩ := I.cell y c e
      exact ⟨w', z.sameBut hs (cne y c e)⟩
    · obtain ⟨e, n, ne, nf, d⟩ := I.pin p hp
      exact ⟨(hs.2 p.1 ne).trans e, n, ne, nf, d⟩
  · have hfn : X.fn x = true := by
      rcases hf with z | z
      · exact z
      · rw [z] at hk; cases hk
    obtain ⟨c, hc⟩ := I.ok.has x (.inl hk)
    obtain ⟨w', z⟩ := I.cell x c hc
    refine wpAny_storeName_cell I.ok.kind hk hc z (fun h' hc' hs => ?_)
    obtain ⟨oc, hoc, hocd⟩ := id z
    refine h { s with heap := h' } ⟨I.ok, I.os, I.bare, ⟨fun b o e n hb hx => ?_, fun b o e n hb hx => ?_, I.base.free, fun b o e hx => ?_, I.base.tups, I.base.frzs, I.base.tbls⟩, ⟨m, hn.sameBut hs (Ne.symm (cne x c hc)), fun j y v' e1 e2 e3 => ?_⟩, fun y c' e => ?_, I.free, I.freeC, fun p hp => ?_, tracked ⟨oc, hoc, I.freeC x c hc⟩ hs, by simpa using I.len⟩ ⟨c, hs, .inr hc⟩
    · exact (hs.2 b (Nat.ne_of_lt (Nat.lt_of_lt_of_le (Heap.lt_size e) (I.ok.cab x c hfn hc)))).trans (I.base.keep b o e n hb hx)
    · obtain ⟨sl, e1⟩ := I.base.slot b o e n hb hx
      exact ⟨sl, (hs.2 b (Nat.ne_of_lt (Nat.lt_of_lt_of_le (Heap.lt_size e) (I.ok.cab x c hfn hc)))).trans e1⟩
    · obtain ⟨o', e1⟩ := I.base.there b o e hx
      exact ⟨o', (hs.2 b (Nat.ne_of_lt (Nat.lt_of_lt_of_le (Heap.lt_size e) (I.ok.cab x c hfn hc)))).trans e1⟩
    · by_cases hj : j = i
      · subst hj
        rw [hi] at e1; cases e1
        rw [List.getElem?_set_self hiσ] at e2
        cases e2
        exact ⟨u, r, .inr ⟨.inl hk, c, hc, hc'⟩⟩
      · rw [List.getElem?_set_ne (Ne.symm hj)] at e2
        obtain ⟨u', r', q⟩ := hl j y v' e1 e2 e3
        refine ⟨u', r', ?_⟩
        rcases q with q | ⟨k, c', e, z'⟩
        · exact .inl q
        · refine .inr ⟨k, c', e, z'.sameBut hs ?_⟩
          rintro rfl
          exact hj (nodup_ix hN e1 (I.ok.inj _ _ _ e hc ▸ hi))
    · by_cases hcc : c' = c
      · subst hcc; exact ⟨_, hc'⟩
      · obtain ⟨w2, z2⟩ := I.cell y c' e
        exact ⟨w2, z2.sameBut hs hcc⟩
    · obtain ⟨e, n, ne, nf, d⟩ := I.pin p hp
      refine ⟨(hs.2 p.1 ?_).trans e, n, ne, nf, d⟩
      intro q
      rw [q, hoc] at e
      have q' : oc = p.2 := Option.some.inj e
      exact d w' (by rw [← q']; exact hocd)
theorem store_ok {M : Model} {A : Around} {E : Value → Shared → Prop} {i : Nat} {x : Str} {v : V} {u : Value} {Q : Unit → Shared → Prop} (I : Inv X pins σ H s) (hN : X.N.Nodup) (hi : X.N[i]? = some x) (hx : Loc X.env.scope x) (r : RelV v u)
    (h : ∀ s', Inv X pins (σ.set i (some v)) H s' → Q () s') (hf : X.fn x = true ∨ X.env.scope.names.lookup x = some .local := by first | exact .inl rfl | exact .inr rfl | assumption) : wpAny M A (storeName X.env x u) Q E s :=
  store_ok2 I hN hi hx r (fun s' I' _ => h s' I') hf
theorem Inv.call' {s' : Shared} {ch : List Addr} (I : Inv X pins σ H s) (ho : s'.os = s.os) (u : Un (frs X.stack) ch H H' s.heap s'.heap) (hok : HOk X.prog X.w H' s'.heap) (hg : AllBare s'.gens)
    (hch : ∀ b ∈ ch, (b ∈ X.ex ∨ X.s₀.heap.objs.size ≤ b) ∧ b ≠ X.env.locals ∧ (∀ x c, X.env.cells.lookup x = some c → c ≠ b) ∧ ∀ p ∈ X.pn ++ pins, p.1 ≠ b) : Inv X pins σ H' s' := by
  obtain ⟨h', g', d', t', o'⟩ := s'
  have e : o' = s.os := ho
  subst e
  exact I.call (g' := g') (t' := t') (d' := d') u hok hg hch
end

abbrev XK := Value → Option Addr → Hp → Prop
abbrev St := List (Option V)
abbrev VK := V → Hp → Prop
abbrev TE := St → Hp → VK → Prop
abbrev TT := St → Hp → (Bool → Hp → Prop) → Prop
abbrev TA := St → Hp → (List V → Hp → Prop) → Prop
structure Ends where
  nx : St → Hp → Prop
  rt : VK
  bk : St → Hp → Prop := fun _ _ => False
  ct : St → Hp → Prop := fun _ _ => False
abbrev TS := Ends → St → Hp → Prop

noncomputable def EP (X : Cx) (pins : List (Addr × Obj)) (σ : St) (Q : VK) (u : Value) (s' : Shared) : Prop := ∃ v H', Inv X pins σ H' s' ∧ RelV v u ∧ Q v H'
noncomputable def TP (X : Cx) (pins : List (Addr × Obj)) (σ : St) (Q : Bool → Hp → Prop) (b : Bool) (s' : Shared) : Prop := ∃ H', Inv X pins σ H' s' ∧ Q b H'
noncomputable def AP (X : Cx) (pins : List (Addr × Obj)) (σ : St) (Q : List V → Hp → Prop) (us : List Value) (s' : Shared) : Prop := ∃ vs H', Inv X pins σ H' s' ∧ Vals vs us ∧ Q vs H'
noncomputable def SP (X : Cx) (pins : List (Addr × Obj)) (D : Ends) (f : Flow) (s' : Shared) : Prop :=
  match f with
  | .next => ∃ σ' H', Inv X pins σ' H' s' ∧ D.nx σ' H'
  | .brk => ∃ σ' H', Inv X pins σ' H' s' ∧ D.bk σ' H'
  | .cont => ∃ σ' H', Inv X pins σ' H' s' ∧ D.ct σ' H'
  | .ret u => ∃ v σ' H', Inv X pins σ' H' s' ∧ RelV v u ∧ D.rt v H'

noncomputable def PE (X : Cx) (e : Expr) (t : TE) : Prop :=
  ∀ (pins : List (Addr × Obj)) (s : Shared) (σ : St) (H : Hp) (Q : VK), Inv X pins σ H s → t σ H Q → wpAny (model X.prog X.w) X.A (eval e X.env) (EP X pins σ Q) X.xe s
noncomputable def PT (X : Cx) (e : Expr) (t : TT) : Prop :=
  ∀ (pins : List (Addr × Obj)) (s : Shared) (σ : St) (H : Hp) (Q : Bool → Hp → Prop), Inv X pins σ H s → t σ H Q → wpAny (model X.prog X.w) X.A (isTrue e X.env (eval e X.env)) (TP X pins σ Q) X.xe s
noncomputable def PW (X : Cx) (e : Expr) (t : TT) : Prop :=
  ∀ (whole : Sem Value) (pins : List (Addr × Obj)) (s : Shared) (σ : St) (H : Hp) (Q : Bool → Hp → Prop), Inv X pins σ H s → t σ H Q → wpAny (model X.prog X.w) X.A (isTrue e X.env whole) (TP X pins σ Q) X.xe s
theorem PW.pt {X : Cx} {e : Expr} {t : TT} (h : PW X e t) : PT X e t := h _
noncomputable def PA (X : Cx) (es : List Expr) (t : TA) : Prop :=
  ∀ (pos : Pos) (pins : List (Addr × Obj)) (s : Shared) (σ : St) (H : Hp) (Q : List V → Hp → Prop), Inv X pins σ H s → t σ H Q → wpAny (model X.prog X.w) X.A (spliced (backTo pos (starEach es X.env))) (AP X pins σ Q) X.xe s
noncomputable def PS (X : Cx) (st : Stmt) (t : TS) : Prop :=
  ∀ (pins : List (Addr × Obj)) (s : Shared) (σ : St) (H : Hp) (D : Ends), Inv X pins σ H s → t D σ H → wpAny (model X.prog X.w) X.A (exec st X.env) (SP X pins D) X.xe s
noncomputable def PSs (X : Cx) (st : List Stmt) (t : TS) : Prop :=
  ∀ (pins : List (Addr × Obj)) (s : Shared) (σ : St) (H : Hp) (D : Ends), Inv X pins σ H s → t D σ H → wpAny (model X.prog X.w) X.A (execs st X.env) (SP X pins D) X.xe s
theorem thn {α : Type} {t : Sem α} {Q Q' : α → Shared → Prop} {M : Model} {A : Around} {E : Value → Shared → Prop} {s : Shared} (h : wpAny M A t Q E s) (hQ : ∀ a s, Q a s → Q' a s) : wpAny M A t Q' E s := wpAny_mono h hQ fun _ _ x => x
end L2

namespace L2
open PySem PySem.Spec PyProof.Rows
section
variable {X : Cx}


noncomputable def tVar (i : Nat) : TE := fun σ H Q => ∃ v, σ[i]? = some (some v) ∧ Q v H
noncomputable def tC (v : V) : TE := fun _ H Q => Q v H
theorem pe_var {i : Nat} {x : Str} {pos : Pos} (hN : X.N[i]? = some x) (hv : Vis X.env.scope x) (hd : (x == ("__debug__" : Str)) = false := by decide) (hcd : (x == ("__classdict__" : Str)) = false := by decide) : PE X (.Name x pos) (tVar i) := by
  intro pins s σ H Q I h
  obtain ⟨v, e, h⟩ := h
  obtain ⟨m, hn, hl⟩ := I.loc
  obtain ⟨u, r, l⟩ := hl i x v hN e hv
  have fin : EP X pins σ Q u s := ⟨v, H, I, r, h⟩
  rcases l with ⟨hk, hm⟩ | ⟨hk, c, hc, hcell⟩
  · exact wpAny_Name (wpAny_loadName_local I.ok.kind hk hn hm fin) hd
  · rcases hk with hk | hk
    · exact wpAny_Name (wpAny_loadName_cell I.ok.kind hk hc hcell fin) hd
    · exact wpAny_Name (wpAny_loadName_free I.ok.kind hk hc hcell fin hcd) hd
theorem pe_int {i j pos} : PE X (.Constant (.int i) j pos) (tC (.int i)) := fun _ _ _ H _ I h => wpAny_Constant_int ⟨.int i, H, I.tok _, ⟨_, rfl⟩, h⟩
theorem pe_bl {b j pos} : PE X (.Constant (.bool b) j pos) (tC (.bl b)) := fun _ _ _ H _ I h => Constant_bool ⟨.bl b, H, I, rfl, h⟩
theorem pe_non {j pos} : PE X (.Constant .none j pos) (tC .non) := fun _ _ _ H _ I h => Constant_none ⟨.non, H, I, rfl, h⟩
theorem pe_str {x j pos} : PE X (.Constant (.str x) j pos) (tC (.str x)) := fun _ _ _ H _ I h => Calls.Constant_str ⟨.str x, H, I.tok _, ⟨_, rfl⟩, h⟩

noncomputable def Gl (X : Cx) (x : Str) : Prop := X.env.kindOf x = some .globalImplicit
theorem ld_glob {E : Value → Shared → Prop} {pins : List (Addr × Obj)} {s : Shared} {σ : St} {H : Hp} {x : Str} {u : Value} {pos : Pos} {Q : Value → Shared → Prop} (I : Inv X pins σ H s) (hg : Gl X x) (hm : X.mg x = some u) (h : Q u s)
    (hd : (x == ("__debug__" : Str)) = false := by decide) : wpAny (model X.prog X.w) X.A (eval (.Name x pos) X.env) Q E s :=
  Calls.Name_function_global I.ok.kind hg (Calls.loadGlobal_global (by rw [I.ok.glob]; exact I.mod.glob.keeps I.bk) hm h) hd
theorem ld_blt {E : Value → Shared → Prop} {pins : List (Addr × Obj)} {s : Shared} {σ : St} {H : Hp} {x : Str} {u : Value} {pos : Pos} {Q : Value → Shared → Prop} (I : Inv X pins σ H s) (hg : Gl X x) (hm : X.mg x = none) (hv : bootBuiltins x = some u) (h : Q u s)
    (hn : x ≠ "__name__" := by decide) (hd : (x == ("__debug__" : Str)) = false := by decide) : wpAny (model X.prog X.w) X.A (eval (.Name x pos) X.env) Q E s := by
  obtain ⟨mb, h1, h2⟩ := I.mod.blt
  exact Calls.Name_function_global I.ok.kind hg (Calls.loadGlobal_builtin (by rw [I.ok.glob]; exact I.mod.glob.keeps I.bk) hm (by rw [I.ok.blt]; exact h1.keeps I.bk) ((h2 x hn).trans hv) h) hd
theorem pe_glob {x : Str} {v : V} {u : Value} {pos : Pos} (hg : Gl X x) (hm : X.mg x = some u) (r : RelV v u) (hd : (x == ("__debug__" : Str)) = false := by decide) : PE X (.Name x pos) (tC v) :=
  fun _ _ _ H _ I h => ld_glob I hg hm ⟨v, H, I, r, h⟩ hd
theorem pe_bltn {x : Str} {v : V} {u : Value} {pos : Pos} (hg : Gl X x) (hm : X.mg x = none) (hv : bootBuiltins x = some u) (r : RelV v u) (hn : x ≠ "__name__" := by decide) (hd : (x == ("__debug__" : Str)) = false := by decide) : PE X (.Name x pos) (tC v) :=
  fun _ _ _ H _ I h => ld_blt I hg hm hv ⟨v, H, I, r, h⟩ hn hd

variable {a b : Expr} {ta tb : TE} {pos : Pos}

noncomputable def tB (t : TE) : TT := fun σ H Q => t σ H fun x H1 => ∃ c, x = .bl c ∧ Q c H1
theorem pt_val {e : Expr} {t : TE} (h : PE X e t) (he : ∀ whole, isTrue e X.env whole = (do let v ← whole; standAt e.pos; holding [v] (truthy v)) := by intro _; rfl) : PT X e (tB t) := by
  intro pins s σ H Q I hw
  refine isTrue_plain (thn (h pins s σ H _ I hw) fun v s1 ⟨x, H1, I1, r1, q1⟩ => ?_) (he _)
  obtain ⟨d, rfl, q⟩ := q1
  cases r1
  exact wpAny_truthy_bool ⟨H1, I1, q⟩

variable {tA tB' : TT} {rest : List Expr}
noncomputable def tAnd (t u : TT) : TT := fun σ H Q => t σ H fun c H1 => if c = true then u σ H1 Q else Q false H1
noncomputable def tOr (t u : TT) : TT := fun σ H Q => t σ H fun c H1 => if c = true then Q true H1 else u σ H1 Q
noncomputable def tNot (t : TT) : TT := fun σ H Q => t σ H fun c H1 => Q (!c) H1
theorem pw_and1 (ha : PT X a tA) : PW X (.BoolOp .And [a] pos) tA := by
  intro wh pins s σ H Q I h
  refine isTrue_and (thn (ha pins s σ H Q I h) fun c s1 e => ?_)
  cases c with
  | true => exact isTrue_and_nil e
  | false => exact e
theorem pw_or1 (ha : PT X a tA) : PW X (.BoolOp .Or [a] pos) tA := by
  intro wh pins s σ H Q I h
  refine isTrue_or (thn (ha pins s σ H Q I h) fun c s1 e => ?_)
  cases c with
  | false => exact isTrue_or_nil e
  | true => exact e
theorem pw_and (ha : PT X a tA) (hb : PW X (.BoolOp .And (b :: rest) pos) tB') : PW X (.BoolOp .And (a :: b :: rest) pos) (tAnd tA tB') := by
  intro wh pins s σ H Q I h
  refine isTrue_and (thn (ha pins s σ H _ I h) fun c s1 ⟨H1, I1, q1⟩ => ?_)
  cases c with
  | true => exact hb wh pins s1 σ H1 Q I1 q1
  | false => exact ⟨H1, I1, q1⟩
theorem pw_or (ha : PT X a tA) (hb : PW X (.BoolOp .Or (b :: rest) pos) tB') : PW X (.BoolOp .Or (a :: b :: rest) pos) (tOr tA tB') := by
  intro wh pins s σ H Q I h
  refine isTrue_or (thn (ha pins s σ H _ I h) fun c s1 ⟨H1, I1, q1⟩ => ?_)
  cases c with
  | true => exact ⟨H1, I1, q1⟩
  | false => exact hb wh pins s1 σ H1 Q I1 q1
theorem pt_not (ha : PT X a tA) : PT X (.UnaryOp .Not a pos) (tNot tA) := by
  intro pins s σ H Q I h
  exact isTrue_not (ha pins s σ H (fun c H1 => Q (!c) H1) I h)
noncomputable def tAndV (ta tb : TE) : TE := fun σ H Q => ta σ H fun x H1 => ∃ c, x = .bl c ∧ if c = true then tb σ H1 Q else Q (.bl false) H1
noncomputable def tOrV (ta tb : TE) : TE := fun σ H Q => ta σ H fun x H1 => ∃ c, x = .bl c ∧ if c = true then Q (.bl true) H1 else tb σ H1 Q
noncomputable def tNotV (ta : TE) : TE := fun σ H Q => ta σ H fun x H1 => ∃ c, x = .bl c ∧ Q (.bl (!c)) H1
noncomputable def tIf (t : TT) (ta tb : TE) : TE := fun σ H Q => t σ H fun c H1 => if c = true then ta σ H1 Q else tb σ H1 Q
end
end L2

namespace L2
open PySem PySem.Spec PyProof.Rows

noncomputable def SqL (K : PySem.W.Frag) (H : Hp) (a : Addr) (xs : List V) : Prop :=
  Rd H a (.lst xs) ∨
    ∃ (o : Obj) (its : Array Value) (n : Nat), K.lookup a = some o ∧ o.cls = .type "list" ∧ o.dict = none ∧ o.data = .seq its n ∧ its.size ≤ sizeLine ∧ Vals xs its.toList
noncomputable def SqT (K : PySem.W.Frag) (H : Hp) (a : Addr) (xs : List V) : Prop :=
  Rd H a (.tup xs) ∨
    ∃ (o : Obj) (its : Array Value) (n : Nat), K.lookup a = some o ∧ o.cls = .type "tuple" ∧ o.data = .seq its n ∧ its.size ≤ sizeLine ∧ Vals xs its.toList
noncomputable def absV : Value → Option V
  | .none => some .non
  | .bool b => some (.bl b)
  | .int i _ => some (.int i)
  | .str x _ => some (.str x)
  | .bytes b _ => some (.byt b)
  | .float b _ => some (.flt b)
  | .ref a => some (.ref a)
  | .type n => some (.ty n)
  | _ => none
theorem RelV.abs {x : V} {u : Value} (r : RelV x u) : absV u = some x := by
  cases x with
  | non => cases r; rfl
  | bl _ => cases r; rfl
  | int _ => obtain ⟨t, rfl⟩ := r; rfl
  | str _ => obtain ⟨t, rfl⟩ := r; rfl
  | byt _ => obtain ⟨t, rfl⟩ := r; rfl
  | flt _ => obtain ⟨t, rfl⟩ := r; rfl
  | ref _ => cases r; rfl
  | ty _ => cases r; rfl
theorem RelV.inj {x y : V} {u : Value} (r : RelV x u) (q : RelV y u) : x = y := Option.some.inj (r.abs.symm.trans q.abs)
theorem Vals.inj : ∀ {xs ys : List V} {us : List Value}, Vals xs us → Vals ys us → xs = ys
  | _, _, _, .nil, .nil => rfl
  | _, _, _, .cons r t, .cons r' t' => by rw [r.inj r', Vals.inj t t']
section
variable {X : Cx} {pins : List (Addr × Obj)} {σ : St} {H : Hp} {s : Shared} {a : Addr} {xs ys : List V}
theorem SqL.of {K : PySem.W.Frag} (h : H a = some (.lst xs)) : SqL K H a xs := .inl (.inl h)
theorem SqT.of {K : PySem.W.Frag} (h : H a = some (.tup xs)) : SqT K H a xs := .inl (.inl h)
theorem Inv.list (I : Inv X pins σ H s) (h : SqL X.K H a xs) : ∃ its : List Value, Vals xs its ∧ PlainL s.heap a its.toArray ∧ xs.length ≤ sizeLine := by
  rcases h with h | ⟨o, its, n, hk, hc, hd, hs, hz, r⟩
  · obtain ⟨z, its, n, r, e⟩ := h.ok I.hok
    exact ⟨its, r, ⟨_, n, e, rfl, rfl, rfl⟩, z⟩
  · refine ⟨its.toList, r, ⟨o, n, I.kIn a o hk, hc, hd, by simpa using hs⟩, ?_⟩
    have e := r.length
    simp only [Array.length_toList] at e
    omega
theorem Inv.tuple (I : Inv X pins σ H s) (h : SqT X.K H a xs) : ∃ its : List Value, Vals xs its ∧ IsTup s.heap a its.toArray ∧ xs.length ≤ sizeLine := by
  rcases h with h | ⟨o, its, n, hk, hc, hs, hz, r⟩
  · obtain ⟨z, its, r, p⟩ := h.ok I.hok
    exact ⟨its, r, p, z⟩
  · refine ⟨its.toList, r, ⟨o, I.kIn a o hk, hc, n, by simpa using hs⟩, ?_⟩
    have e := r.length
    simp only [Array.length_toList] at e
    omega
end

abbrev Cx.wish (X : Cx) (E : Value → Shared → Prop) : Cx := { X with xe := E }
abbrev Cx.nox (X : Cx) : Cx := X.wish fun _ _ => False
theorem Cx.Ok.wish {X : Cx} (ok : X.Ok) (E : Value → Shared → Prop) : (X.wish E).Ok :=
  ⟨ok.mod, ok.kind, ok.glob, ok.blt, ok.above, ok.inj, ok.has, ok.cab, ok.hd, ok.frames, ok.stk, ok.exf, ok.bs, ok.bsz, ok.noex, ok.exfs, ok.funs, ok.frf⟩
theorem Cx.Ok.unwish {X : Cx} {E : Value → Shared → Prop} (ok : (X.wish E).Ok) : X.Ok :=
  ⟨ok.mod, ok.kind, ok.glob, ok.blt, ok.above, ok.inj, ok.has, ok.cab, ok.hd, ok.frames, ok.stk, ok.exf, ok.bs, ok.bsz, ok.noex, ok.exfs, ok.funs, ok.frf⟩
section
variable {X : Cx} {pins : List (Addr × Obj)} {σ : St} {H : Hp} {s : Shared} {E : Value → Shared → Prop}
theorem Inv.wish (I : Inv X pins σ H s) (E : Value → Shared → Prop) : Inv (X.wish E) pins σ H s := ⟨I.ok.wish E, I.os, I.bare, I.base, I.loc, I.cell, I.free, I.freeC, I.pin, I.hok, I.len⟩
theorem Inv.unwish (I : Inv (X.wish E) pins σ H s) : Inv X pins σ H s := ⟨I.ok.unwish, I.os, I.bare, I.base, I.loc, I.cell, I.free, I.freeC, I.pin, I.hok, I.len⟩
theorem SP.unwish {D : Ends} {f : Flow} {s' : Shared} (h : SP (X.wish E) pins D f s') : SP X pins D f s' := by
  cases f with
  | next => obtain ⟨σ', H', I, q⟩ := h; exact ⟨σ', H', I.unwish, q⟩
  | brk => obtain ⟨σ', H', I, q⟩ := h; exact ⟨σ', H', I.unwish, q⟩
  | cont => obtain ⟨σ', H', I, q⟩ := h; exact ⟨σ', H', I.unwish, q⟩
  | ret u => obtain ⟨v, σ', H', I, r, q⟩ := h; exact ⟨v, σ', H', I.unwish, r, q⟩
theorem PSs.nox {st : List Stmt} {t : TS} (h : PSs X.nox st t) : PSs X st t := fun pins s σ H D I hw =>
  wpAny_mono (h pins s σ H D (I.wish _) hw) (fun _ _ q => q.unwish) fun _ _ z => False.elim z
end

section
variable {X : Cx} {st : Stmt} {rest : List Stmt} {t u : TS} {e : Expr} {te : TE} {pos : Pos}
noncomputable def tNext : TS := fun D σ H => D.nx σ H
noncomputable def tSeq (t u : TS) : TS := fun D σ H => t { D with nx := u D } σ H
theorem pss_nil : PSs X [] tNext := fun _ _ σ H _ I h => wpAny_execs_nil ⟨σ, H, I, h⟩
theorem pss_cons (h1 : PS X st t) (h2 : PSs X rest u) : PSs X (st :: rest) (tSeq t u) := by
  intro pins s σ H D I h
  refine wpAny_execs_cons (thn (h1 pins s σ H { D with nx := u D } I h) fun f s1 q => ?_)
  cases f with
  | next =>
    obtain ⟨σ', H', I', q⟩ := q
    exact h2 pins s1 σ' H' D I' q
  | ret v => exact q
  | brk => exact q
  | cont => exact q
theorem pss_one (h1 : PS X st t) : PSs X [st] t := by
  intro pins s σ H D I h
  refine wpAny_execs_cons (thn (h1 pins s σ H D I h) fun f s1 q => ?_)
  cases f with
  | next => exact wpAny_execs_nil q
  | ret v => exact q
  | brk => exact q
  | cont => exact q
theorem Inv.quiet {pins : List (Addr × Obj)} {σ : St} {H : Hp} {s : Shared} (I : Inv X pins σ H s) : interactive X.env = false := by simp [interactive, I.ok.kind]
noncomputable def tDrop (te : TE) : TS := fun D σ H => te σ H fun _ H1 => D.nx σ H1
theorem ps_expr (he : PE X e te) (hs : swapsWith e none pos.line X.env = pure false := by rfl) : PS X (.Expr e pos) (tDrop te) := by
  intro pins s σ H D I h
  exact wpAny_Expr_any (thn (he pins s σ H _ I h) fun v s1 ⟨x, H1, I1, r1, q1⟩ => ⟨σ, H1, I1, q1⟩) I.quiet hs
noncomputable def tRet (te : TE) : TS := fun D σ H => te σ H D.rt
theorem ps_ret (he : PE X e te) : PS X (.Return (some e) pos) (tRet te) := by
  intro pins s σ H D I h
  exact wpAny_Return_some (thn (he pins s σ H _ I h) fun v s1 ⟨x, H1, I1, r1, q1⟩ => ⟨x, σ, H1, I1, r1, q1⟩)
noncomputable def tIfS (c : TT) (t u : TS) : TS := fun D σ H => c σ H fun b H1 => if b = true then t D σ H1 else u D σ H1
theorem ps_if {c : Expr} {a b : List Stmt} {tc : TT} (hc : PT X c tc) (ha : PSs X a t) (hb : PSs X b u) : PS X (.If c a b pos) (tIfS tc t u) := by
  intro pins s σ H D I h
  refine wpAny_If (thn (hc pins s σ H _ I h) fun d s1 ⟨H1, I1, q1⟩ => ?_)
  cases d with
  | true => exact ha pins s1 σ H1 D I1 q1
  | false => exact hb pins s1 σ H1 D I1 q1
noncomputable def tNever : TS := fun _ _ _ => False
theorem pss_never {sts : List Stmt} : PSs X sts tNever := fun _ _ _ _ _ _ h => h.elim
end

abbrev TG := V → St → Hp → (St → Hp → Prop) → Prop
noncomputable def PG (X : Cx) (target : Expr) (t : TG) : Prop :=
  ∀ (pins : List (Addr × Obj)) (s : Shared) (σ : St) (H : Hp) (v : V) (u : Value) (Q : St → Hp → Prop), Inv X pins σ H s → RelV v u → t v σ H Q →
    wpAny (model X.prog X.w) X.A (assign target X.env u) (fun _ s' => ∃ σ' H', Inv X pins σ' H' s' ∧ Q σ' H') X.xe s
abbrev TSet := V → V → V → Hp → (Hp → Prop) → Prop
noncomputable def PSet (X : Cx) (t : TSet) : Prop :=
  ∀ (pins : List (Addr × Obj)) (s : Shared) (σ : St) (H : Hp) (o i v : V) (ov iv u : Value) (Q : Hp → Prop), Inv X pins σ H s → RelV o ov → RelV i iv → RelV v u → t o i v H Q →
    wpAny (model X.prog X.w) X.A (setItem ov iv u) (fun _ s' => ∃ H', Inv X pins σ H' s' ∧ Q H') X.xe s
section
variable {X : Cx} {pos : Pos}
noncomputable def gName (i : Nat) : TG := fun v σ H Q => Q (σ.set i (some v)) H
theorem pg_name {i : Nat} {x : Str} (hN : X.N.Nodup) (hi : X.N[i]? = some x) (hx : Loc X.env.scope x) (hf : X.fn x = true ∨ X.env.scope.names.lookup x = some .local := by first | exact .inl rfl | exact .inr rfl | assumption) : PG X (.Name x pos) (gName i) := by
  intro pins s σ H v u Q I r h
  exact wpAny_assign_Name (store_ok I hN hi hx r (fun s' I' => ⟨_, H, I', h⟩) hf)
noncomputable def gSub (to ti : TE) (t : TSet) : TG := fun v σ H Q => to σ H fun o H1 => ti σ H1 fun i H2 => t o i v H2 fun H3 => Q σ H3
theorem pg_sub {o i : Expr} {to ti : TE} {t : TSet} (ho : PE X o to) (hi : PE X i ti) (hs : PSet X t)
    (ha : ∀ v, assign (.Subscript o i pos) X.env v = (do
      let ov ← holding [v] (eval o X.env)
      let iv ← holding [v, ov] (eval i X.env)
      standAt pos
      holding [v, ov, iv] (setItem ov iv v)
      release [v, ov, iv] []) := by intro _; rfl) : PG X (.Subscript o i pos) (gSub to ti t) := by
  intro pins s σ H v u Q I r h
  rw [ha]
  refine wpAny_bind (wpAny_holding (thn (ho pins s σ H _ I h) fun ov s1 ⟨x, H1, I1, r1, q1⟩ => ?_))
  refine wpAny_bind (wpAny_holding (thn (hi pins s1 σ H1 _ I1 q1) fun iv s2 ⟨y, H2, I2, r2, q2⟩ => ?_))
  refine wpAny_bind (wpAny_standAt (wpAny_bind (wpAny_holding (thn (hs pins s2 σ H2 x y v ov iv u _ I2 r1 r2 r q2) fun _ s3 ⟨H3, I3, q3⟩ => ?_))))
  exact wpAny_release ⟨σ, H3, I3, q3⟩
noncomputable def tAsg (te : TE) (g : TG) : TS := fun D σ H => te σ H fun x H1 => g x σ H1 D.nx
theorem ps_asg {tg e : Expr} {te : TE} {g : TG} (he : PE X e te) (hg : PG X tg g) (hs : swapsWithSole [tg] e pos.line X.env = pure false := by rfl) (hw : swappedStores [tg] e X.env = pure none := by rfl)
    (h1 : (assignEach [tg] X.env).map (·.2) = [assign tg X.env] := by rfl) : PS X (.Assign [tg] e pos) (tAsg te g) := by
  intro pins s σ H D I h
  refine wpAny_Assign_stores (thn (he pins s σ H _ I h) fun v s1 ⟨x, H1, I1, r1, q1⟩ => ?_) hs hw
  rw [h1]
  exact thn (hg pins s1 σ H1 x v _ I1 r1 q1) fun _ s2 q => q
theorem ps_set {i : Nat} {x : Str} {e : Expr} {te : TE} {pos' : Pos} (hN : X.N.Nodup) (hi : X.N[i]? = some x) (hx : Loc X.env.scope x) (he : PE X e te) (hs : swapsWith e (some (.Name x pos')) pos.line X.env = pure false := by rfl) (hf : X.fn x = true ∨ X.env.scope.names.lookup x = some .local := by first | exact .inl rfl | exact .inr rfl | assumption) :
    PS X (.Assign [.Name x pos'] e pos) (tAsg te (gName i)) := by
  intro pins s σ H D I h
  refine wpAny_Assign_Name (thn (he pins s σ H _ I h) fun v s1 ⟨y, H1, I1, r1, q1⟩ => ?_) hs
  exact store_ok I1 hN hi hx r1 (fun s2 I2 => ⟨_, H1, I2, q1⟩) hf
end

section
variable {X : Cx} {pos : Pos}
end

structure It where
  go : Nat → Hp → Prop
  yld : Nat → Hp → V → Hp → Prop
  stop : Nat → Hp → Prop
noncomputable def FpOk (X : Cx) (pins : List (Addr × Obj)) (H : Hp) (b : Addr) : Prop :=
  H b = none ∧ b ≠ X.env.locals ∧ b ∉ X.fs ∧ (b ∈ X.ex ∨ X.s₀.heap.objs.size ≤ b) ∧ (∀ x c, X.env.cells.lookup x = some c → c ≠ b) ∧ ∀ p ∈ X.pn ++ pins, p.1 ≠ b
theorem Inv.fpOk {X : Cx} {pins : List (Addr × Obj)} {σ : St} {H H' : Hp} {s : Shared} {b : Addr} (I : Inv X pins σ H s) (hb : s.heap.objs.size ≤ b) (hn : H' b = none) : FpOk X pins H' b := by
  refine ⟨hn, Nat.ne_of_gt (Nat.lt_of_lt_of_le I.lt hb), I.nofs hb, .inr (Nat.le_trans I.sz hb), fun x c e z => ?_, fun p hp z => ?_⟩
  · obtain ⟨v, q⟩ := I.cell x c e
    exact absurd (Nat.lt_of_lt_of_le q.lt (by rw [z]; exact hb)) (Nat.lt_irrefl _)
  · exact absurd (Nat.lt_of_lt_of_le (Heap.lt_size (I.pin p hp).1) (by rw [z]; exact hb)) (Nat.lt_irrefl _)
structure Turn (P : Program) (w : World) (K : PySem.W.Frag) (tg : Expr) (J : It) (fp : List Addr) (it : Addr) (tn : Nat → Heap → Prop) : Prop where
  mem : it ∈ fp
  obj : ∀ i h, tn i h → ∀ b ∈ fp, ∃ o, h.get? b = some o ∧ ∀ v, o.data ≠ .cell v
  keep : ∀ i h h', tn i h → (∀ b ∈ fp, ∀ o, h.get? b = some o → h'.get? b = some o) → tn i h'
  item : ∀ (X : Cx), X.prog = P → X.w = w → X.K = K → X.calm = true → ∀ (i : Nat) (pins : List (Addr × Obj)) (s : Shared) (σ : St) (H : Hp) (E : Value → Shared → Prop), Inv X pins σ H s → (∀ b ∈ fp, FpOk X pins H b) → tn i s.heap → J.go i H →
    wpAny (model P w) X.A (pyNext (.ref it)) (fun r s1 => ∃ u, r = some u ∧
      wpAny (model P w) X.A (letOwnedTupleGo tg (.ref it) u) (fun _ s2 => ∃ x H', Inv X pins σ H' s2 ∧ RelV x u ∧ J.yld i H x H' ∧ tn (i + 1) s2.heap ∧ ∀ b ∈ fp, H' b = none) E s1) E s
  done : ∀ (X : Cx), X.prog = P → X.w = w → X.K = K → X.calm = true → ∀ (i : Nat) (pins : List (Addr × Obj)) (s : Shared) (σ : St) (H : Hp) (E : Value → Shared → Prop), Inv X pins σ H s → (∀ b ∈ fp, FpOk X pins H b) → tn i s.heap → J.stop i H →
    wpAny (model P w) X.A (pyNext (.ref it)) (fun r s1 => r = none ∧ Inv X pins σ H s1) E s
  self : ∀ (A : Around) (i : Nat) (s : Shared) (Q : Value → Shared → Prop) (E : Value → Shared → Prop), tn i s.heap → Q (.ref it) s → wpAny (model P w) A (pyIter (.ref it)) Q E s
abbrev TI := St → Hp → (It → Hp → Prop) → Prop
noncomputable def PIE (X : Cx) (pins : List (Addr × Obj)) (σ : St) (tg : Expr) (R : It → Hp → Prop) (itv : Value) (s2 : Shared) : Prop :=
  ∃ (it : Addr) (fp : List Addr) (tn : Nat → Heap → Prop) (J : It) (H' : Hp), itv = .ref it ∧ Inv X pins σ H' s2 ∧ Turn X.prog X.w X.K tg J fp it tn ∧ tn 0 s2.heap ∧ (∀ b ∈ fp, FpOk X pins H' b) ∧ R J H'
noncomputable def PI (X : Cx) (tg iter : Expr) (wi : TI) : Prop :=
  ∀ (pins : List (Addr × Obj)) (s : Shared) (σ : St) (H : Hp) (R : It → Hp → Prop), Inv X pins σ H s → wi σ H R →
    wpAny (model X.prog X.w) X.A (eval iter X.env) (fun v s1 => wpAny (model X.prog X.w) X.A (pyIter v) (PIE X pins σ tg R) X.xe s1) X.xe s

theorem go_of {M : Model} {A : Around} {E : Value → Shared → Prop} {s : Shared} {tg : Expr} {it : Addr} {u : Value} {o : Obj} {n : String} {vs : Array Value} {Q : Unit → Shared → Prop} (ho : s.heap.get? it = some o) (hc : o.cls = .type n) (hd : o.data = .fields vs)
    (hn : ["enumerate", "zip", "dict_itemiterator", "dict_reverseitemiterator", "odict_iterator", "itertools.zip_longest", "itertools.pairwise"].contains n = false) (hQ : Q () s) : wpAny M A (letOwnedTupleGo tg (.ref it) u) Q E s := by
  unfold letOwnedTupleGo
  cases tg <;> first
    | exact wpAny_pure hQ
    | (cases u <;> first
        | exact wpAny_pure hQ
        | (refine wpAny_bind (wpAny_load ho ?_)
           rw [hc, hd]
           show wpAny M A (if (["enumerate", "zip", "dict_itemiterator", "dict_reverseitemiterator", "odict_iterator", "itertools.zip_longest", "itertools.pairwise"].contains n && vs[0]? == some (rawInt _)) = true then _ else _) Q E s
           rw [if_neg (by intro h; rw [hn, Bool.false_and] at h; cases h)]
           exact wpAny_pure hQ))

noncomputable def Itl (K : PySem.W.Frag) (a : Addr) : It :=
  ⟨fun i H => ∃ xs x, SqL K H a xs ∧ xs[i]? = some x, fun i H x H' => H' = H ∧ ∀ xs, SqL K H a xs → xs[i]? = some x, fun i H => ∃ xs, SqL K H a xs ∧ xs.length ≤ i⟩
noncomputable def Itr (lo : Int) (n : Nat) : It := ⟨fun i _ => i < n, fun i H x H' => H' = H ∧ x = .int (lo + i), fun i _ => n ≤ i⟩
theorem turn_range {P : Program} {w : World} {K : PySem.W.Frag} {tg : Expr} (it : Addr) (lo : Int) (n : Nat) : Turn P w K tg (Itr lo n) [it] it (fun i h => IsRangeIter h it (lo + (i : Nat) * 1) ((n : Int) - (i : Nat)) 1) where
  mem := by simp
  obj := fun i h st b hb => by
    have e : b = it := by simpa using hb
    subst e
    exact ⟨_, st, fun v z => by
      have z' : Data.fields _ = Data.cell v := z
      cases z'⟩
  keep := fun i h h' st k => k it (by simp) _ st
  item := by
    intro X hP hw hK hc i pins s σ H E I hf st hg
    subst hP hw hK
    obtain ⟨f0, f1, f2, f3, f4, f5⟩ := hf it (by simp)
    have W := Walks.range (prog := X.prog) (w := X.w) (I.ok.hd hc) it lo 1 n
    refine W.item i s _ _ hg st fun v h' tk hv st' kk => ?_
    obtain ⟨t, rfl⟩ := hv
    have I1 : Inv X pins σ H { s with heap := h', toks := tk } := I.turned (fun b o hb e => kk b o (by simpa using hb) e) f0 f1 f3 f4 f5
    refine ⟨_, rfl, go_of (s := { s with heap := h', toks := tk }) (n := "range_iterator") st' rfl rfl (by decide) ⟨.int (lo + i), H, I1, ⟨t, ?_⟩, ⟨rfl, rfl⟩, st', fun b hb => (hf b hb).1⟩⟩
    rw [Int.mul_one]
  done := by
    intro X hP hw hK hc i pins s σ H E I hf st hg
    subst hP hw hK
    obtain ⟨f0, f1, f2, f3, f4, f5⟩ := hf it (by simp)
    exact wpAny_pyNext_range_end (I.ok.hd hc) st (by have : n ≤ i := hg; omega) fun h' eb => ⟨rfl, I.turned (t' := s.toks) (fun b o hb e => eb b o hb e) f0 f1 f3 f4 f5⟩
  self := fun _ _ _ _ _ st h => wpAny_pyIter_rangeiter st h
end L2

namespace L2
open PySem PySem.Spec PyProof.Rows
section
variable {X : Cx} {tg : Expr}
noncomputable def iList (K : PySem.W.Frag) (tl : TE) : TI := fun σ H R => tl σ H fun x H1 => ∃ a, x = .ref a ∧ (∃ xs, SqL K H1 a xs) ∧ R (Itl K a) H1
theorem range_it {pins : List (Addr × Obj)} {σ : St} {H : Hp} {s : Shared} {R : It → Hp → Prop} {E : Value → Shared → Prop} {lo hi : Int} {t u v : Tok} {tk : Nat} (I : Inv X pins σ H s) (h1 : -(2 ^ 62) ≤ lo) (h2 : lo < 2 ^ 62) (h3 : -(2 ^ 62) ≤ hi) (h4 : hi < 2 ^ 62)
    (q : R (Itr lo (hi - lo).toNat) H) : wpAny (model X.prog X.w) X.A (pyIter (.ref s.heap.objs.size)) (PIE X pins σ tg R) E { s with heap := s.heap.push { cls := .type "range", data := .fields #[.int lo t, .int hi u, .int 1 v] }, toks := tk } := by
  refine wpAny_pyIter_range (IsRange.new ..) (small_one h1 h2 h3 h4) ?_
  have I1 : Inv X pins σ H { s with heap := s.heap.push { cls := .type "range", data := .fields #[.int lo t, .int hi u, .int 1 v] }, toks := tk } := I.kept fun b o e => Heap.get?_push_of_some _ e
  refine ⟨(s.heap.push { cls := .type "range", data := .fields #[.int lo t, .int hi u, .int 1 v] }).objs.size, [(s.heap.push { cls := .type "range", data := .fields #[.int lo t, .int hi u, .int 1 v] }).objs.size], _, _, H, rfl,
    I1.kept (t' := tk) fun b o e => Heap.get?_push_of_some _ e, turn_range _ lo (hi - lo).toNat, ?_, fun b hb => ?_, q⟩
  · have e1 : lo + ((0 : Nat) : Int) * 1 = lo := by simp
    have e2 : (((hi - lo).toNat : Nat) : Int) - ((0 : Nat) : Int) = Builtin.Range.rangeSize lo hi 1 := by rw [rangeSize_one]; split <;> omega
    show IsRangeIter _ _ (lo + ((0 : Nat) : Int) * 1) ((((hi - lo).toNat : Nat) : Int) - ((0 : Nat) : Int)) 1
    rw [e1, e2]
    exact Heap.get?_push_size _ rfl
  · have e : b = (s.heap.push { cls := .type "range", data := .fields #[.int lo t, .int hi u, .int 1 v] }).objs.size := by simpa using hb
    subst e
    exact I1.fpOk (Nat.le_refl _) (I1.hok.fresh (Nat.le_refl _))
noncomputable def iRng1 (ta : TA) : TI := fun σ H R => ta σ H fun vs H1 => ∃ j : Int, vs = [.int j] ∧ -(2 ^ 62) ≤ j ∧ j < 2 ^ 62 ∧ R (Itr 0 j.toNat) H1
theorem pi_range1 {a : Expr} {ta : TA} {p pos : Pos} (hg : Gl X "range") (hm : X.mg "range" = none) (ha : PA X [a] ta) (hs : starEach [a] X.env = [(false, eval a X.env)] := by rfl) : PI X tg (.Call (.Name "range" p) [a] [] pos) (iRng1 ta) := by
  intro pins s σ H R I h
  refine Call_ (ld_blt I hg hm boot_range (PyProof.Rows.callWith_type1 (thn (ha pos pins s σ H _ I h) fun us s1 ⟨vs, H1, I1, r1, q1⟩ => ?_) hs rfl))
  obtain ⟨j, e, q1, q2, q⟩ := q1
  subst e
  cases r1 with
  | cons r rr =>
    cases rr
    obtain ⟨t, rfl⟩ := r
    exact call_range_1 (range_it I1 (by omega) (by omega) q1 q2 (by simpa using q))

noncomputable def tFor (wi : TI) (g : TG) (tb : TS) : TS := fun D σ H => wi σ H fun J H1 => ∃ W : Nat → Nat → St → Hp → Prop, (∃ m, W 0 m σ H1) ∧ ∀ i m σ H, W i m σ H →
  (J.stop i H ∧ D.nx σ H) ∨ (J.go i H ∧ ∃ N : St → Hp → Prop, (∀ σ' H', N σ' H' → ∃ m', m' < m ∧ W (i + 1) m' σ' H') ∧ ∀ x H', J.yld i H x H' → g x σ H' fun σ2 H2 => tb { D with nx := N, ct := N, bk := D.nx } σ2 H2)
noncomputable def pinsAt (fp : List Addr) (h : Heap) : List (Addr × Obj) := fp.filterMap fun b => (h.get? b).map fun o => (b, o)
theorem mem_pinsAt {fp : List Addr} {h : Heap} {b : Addr} {o : Obj} (hb : b ∈ fp) (e : h.get? b = some o) : (b, o) ∈ pinsAt fp h := List.mem_filterMap.mpr ⟨b, hb, by rw [e]; rfl⟩
theorem of_pinsAt {fp : List Addr} {h : Heap} {p : Addr × Obj} (hp : p ∈ pinsAt fp h) : p.1 ∈ fp ∧ h.get? p.1 = some p.2 := by
  obtain ⟨b, hb, e⟩ := List.mem_filterMap.mp hp
  cases q : h.get? b with
  | none => rw [q] at e; cases e
  | some o =>
    rw [q] at e
    have e' : (b, o) = p := Option.some.inj e
    subst e'
    exact ⟨hb, q⟩
theorem Inv.pinned {pins : List (Addr × Obj)} {σ : St} {H : Hp} {s : Shared} {fp : List Addr} (I : Inv X pins σ H s) (hf : ∀ b ∈ fp, FpOk X pins H b) (ho : ∀ b ∈ fp, ∃ o, s.heap.get? b = some o ∧ ∀ v, o.data ≠ .cell v) : Inv X (pins ++ pinsAt fp s.heap) σ H s :=
  I.pins_of fun p hp => (List.mem_append.mp hp).elim (fun z => I.pin p (List.mem_append_right _ z)) fun z => by
    obtain ⟨hb, e⟩ := of_pinsAt z
    obtain ⟨f0, f1, f2, _⟩ := hf p.1 hb
    obtain ⟨o, e', d⟩ := ho p.1 hb
    rw [e] at e'; cases e'
    exact ⟨e, f0, f1, f2, d⟩
theorem Inv.unpinned {pins pl : List (Addr × Obj)} {σ : St} {H : Hp} {s : Shared} (I : Inv X (pins ++ pl) σ H s) : Inv X pins σ H s := I.pins_of fun p hp => I.pin p (List.mem_append_right _ (List.mem_append_left _ hp))
theorem ps_for {iter : Expr} {body : List Stmt} {wi : TI} {g : TG} {tb : TS} {pos : Pos} (hp : PassesOwn (model X.prog X.w) X.A X.env X.xe) (hc : X.calm = true) (hi : PI X tg iter wi) (hg : PG X tg g) (hb : PSs X body tb)
    (hs : ∀ x, foldedSetIterable iter X.env x = pure x := by intro _; rfl) : PS X (.For tg iter body [] pos) (tFor wi g tb) := by
  intro pins s σ H D I h
  refine wpAny_For (thn (hi pins s σ H _ I h) fun v s1 h1 => thn h1 fun itv s2 h2 => ?_) hs
  obtain ⟨it, fp, tn, J, H2, e, I2, T, st2, f2, W, ⟨m0, w0⟩, turn⟩ := h2
  subst e
  -- what stays true of the iterator's objects through the loop
  have stat : ∀ {H' : Hp}, (∀ b ∈ fp, H' b = none) → ∀ b ∈ fp, FpOk X pins H' b := fun hn b hb => ⟨hn b hb, (f2 b hb).2⟩
  refine codeAny_forLoop_any (fun n s' => ∃ i σ' H', Inv X pins σ' H' s' ∧ tn i s'.heap ∧ (∀ b ∈ fp, H' b = none) ∧ W i n σ' H') ?_ m0 ⟨0, σ, H2, I2, st2, fun b hb => (f2 b hb).1, w0⟩
  rintro n s3 ⟨i, σ3, H3, I3, st3, fr3, w3⟩
  rcases turn i n σ3 H3 w3 with ⟨stop, qn⟩ | ⟨go, N, hN, step⟩
  · refine wpAny_passesOwn hp (thn (T.done X rfl rfl rfl hc i pins s3 σ3 H3 X.xe I3 (stat fr3) st3 stop) fun r s4 ⟨hr, I4⟩ => ?_)
    subst hr
    exact wpAny_execs_nil ⟨σ3, H3, I4, qn⟩
  · refine wpAny_passesOwn hp (thn (T.item X rfl rfl rfl hc i pins s3 σ3 H3 X.xe I3 (stat fr3) st3 go) fun r s4 ⟨u, hr, h4⟩ => ?_)
    subst hr
    refine wpAny_passesOwn hp (thn h4 fun _ s5 ⟨x, H5, I5, r5, y5, st5, fr5⟩ => ?_)
    have I5' := I5.pinned (stat fr5) (T.obj _ _ st5)
    refine wpAny_passesOwn hp (thn (hg _ s5 σ3 H5 x u _ I5' r5 (step x H5 y5)) fun _ s6 ⟨σ6, H6, I6, q6⟩ => ?_)
    refine wpAny_passesOwn hp (thn (hb _ s6 σ6 H6 _ I6 q6) fun f s7 q7 => ?_)
    have again : ∀ {σ7 : St} {H7 : Hp}, Inv X (pins ++ pinsAt fp s5.heap) σ7 H7 s7 → N σ7 H7 → ∃ m, m < n ∧ ∃ i σ' H', Inv X pins σ' H' s7 ∧ tn i s7.heap ∧ (∀ b ∈ fp, H' b = none) ∧ W i m σ' H' := fun {σ7 H7} I7 n7 => by
      obtain ⟨m', hm, w7⟩ := hN σ7 H7 n7
      refine ⟨m', hm, i + 1, σ7, H7, I7.unpinned, T.keep _ _ _ st5 fun b hb o e => (I7.pin (b, o) (List.mem_append_right _ (List.mem_append_right _ (mem_pinsAt hb e)))).1, fun b hb => ?_, w7⟩
      obtain ⟨o, e, d⟩ := T.obj _ _ st5 b hb
      exact (I7.pin (b, o) (List.mem_append_right _ (List.mem_append_right _ (mem_pinsAt hb e)))).2.1
    cases f with
    | next => obtain ⟨σ7, H7, I7, n7⟩ := q7; exact again I7 n7
    | cont => obtain ⟨σ7, H7, I7, n7⟩ := q7; exact again I7 n7
    | brk => obtain ⟨σ7, H7, I7, q7⟩ := q7; exact ⟨σ7, H7, I7.unpinned, q7⟩
    | ret v => obtain ⟨x7, σ7, H7, I7, r7, q7⟩ := q7; exact ⟨x7, σ7, H7, I7.unpinned, r7, q7⟩
end

theorem for_range {lo : Int} {n : Nat} {g : TG} {tb : TS} {D : Ends} {σ : St} {H : Hp} (Pv : Nat → St → Hp → Prop) (h0 : Pv 0 σ H)
    (hs : ∀ i σ H, i < n → Pv i σ H → g (.int (lo + i)) σ H fun σ2 H2 => tb { D with nx := Pv (i + 1), ct := Pv (i + 1), bk := D.nx } σ2 H2) (hd : ∀ σ H, Pv n σ H → D.nx σ H) :
    ∃ W : Nat → Nat → St → Hp → Prop, (∃ m, W 0 m σ H) ∧ ∀ i m σ H, W i m σ H →
      ((Itr lo n).stop i H ∧ D.nx σ H) ∨ ((Itr lo n).go i H ∧ ∃ N : St → Hp → Prop, (∀ σ' H', N σ' H' → ∃ m', m' < m ∧ W (i + 1) m' σ' H') ∧ ∀ x H', (Itr lo n).yld i H x H' → g x σ H' fun σ2 H2 => tb { D with nx := N, ct := N, bk := D.nx } σ2 H2) := by
  refine ⟨fun i m σ H => m = n - i ∧ i ≤ n ∧ Pv i σ H, ⟨n, by simp, Nat.zero_le _, h0⟩, ?_⟩
  rintro i m σ H ⟨rfl, hi, p⟩
  by_cases hlt : i < n
  · refine .inr ⟨hlt, Pv (i + 1), fun σ' H' p' => ⟨n - (i + 1), by omega, rfl, hlt, p'⟩, fun x H' y => ?_⟩
    obtain ⟨e, y⟩ := y
    subst e y
    exact hs i σ _ hlt p
  · have e : i = n := by omega
    subst e
    exact .inl ⟨Nat.le_refl _, hd σ H p⟩
end L2

namespace L2
open PySem PySem.Spec PyProof.Rows

abbrev R2 := V → V → Hp → VK → Prop
noncomputable def OpR (X : Cx) (f : Value → Value → Sem Value) (r : R2) : Prop :=
  ∀ (pins : List (Addr × Obj)) (s : Shared) (σ : St) (H : Hp) (x y : V) (v u : Value) (Q : VK), Inv X pins σ H s → RelV x v → RelV y u → r x y H Q →
    wpAny (model X.prog X.w) X.A (f v u) (EP X pins σ Q) X.xe s
noncomputable def UnR (X : Cx) (f : Value → Sem Value) (r : V → Hp → VK → Prop) : Prop :=
  ∀ (pins : List (Addr × Obj)) (s : Shared) (σ : St) (H : Hp) (x : V) (v : Value) (Q : VK), Inv X pins σ H s → RelV x v → r x H Q →
    wpAny (model X.prog X.w) X.A (f v) (EP X pins σ Q) X.xe s
noncomputable def CallR (X : Cx) (f : Value) (r : List V → Hp → VK → Prop) : Prop :=
  ∀ (pins : List (Addr × Obj)) (s : Shared) (σ : St) (H : Hp) (xs : List V) (us : List Value) (Q : VK), Inv X pins σ H s → Vals xs us → r xs H Q →
    wpAny (model X.prog X.w) X.A (call f us) (EP X pins σ Q) X.xe s

noncomputable def tOp (r : R2) (ta tb : TE) : TE := fun σ H Q => ta σ H fun x H1 => tb σ H1 fun y H2 => r x y H2 Q
noncomputable def tUn (r : V → Hp → VK → Prop) (ta : TE) : TE := fun σ H Q => ta σ H fun x H1 => r x H1 Q
noncomputable def rI (C : Int → Int → Prop) (g : Int → Int → V) : R2 := fun x y H Q => ∃ i j, x = .int i ∧ y = .int j ∧ C i j ∧ Q (g i j) H
noncomputable def rI0 (g : Int → Int → V) : R2 := fun x y H Q => ∃ i j, x = .int i ∧ y = .int j ∧ Q (g i j) H
noncomputable def rU (g : Int → V) : V → Hp → VK → Prop := fun x H Q => ∃ i, x = .int i ∧ Q (g i) H

section
variable {X : Cx} {a b c : Expr} {ta tb tc : TE} {pos : Pos}

theorem binT (ha : PE X a ta) (hb : PE X b tb) {pins : List (Addr × Obj)} {s : Shared} {σ : St} {H : Hp} {R : V → V → Hp → Prop} (I : Inv X pins σ H s)
    (h : ta σ H fun x H1 => tb σ H1 fun y H2 => R x y H2) {Q : Value → Shared → Prop} {f : Value → Value → Sem Value}
    (hf : ∀ v u s2 x y H2, Inv X pins σ H2 s2 → RelV x v → RelV y u → R x y H2 → wpAny (model X.prog X.w) X.A (f v u) Q X.xe s2) :
    wpAny (model X.prog X.w) X.A (eval a X.env) (fun v s₁ => wpAny (model X.prog X.w) X.A (eval b X.env) (fun u s₂ => wpAny (model X.prog X.w) X.A (f v u) Q X.xe s₂) X.xe s₁) X.xe s := by
  refine thn (ha pins s σ H _ I h) fun v s1 ⟨x, H1, I1, r1, q1⟩ => ?_
  refine thn (hb pins s1 σ H1 _ I1 q1) fun u s2 ⟨y, H2, I2, r2, q2⟩ => ?_
  exact hf v u s2 x y H2 I2 r1 r2 q2

theorem pe_op {op : Operator} {r : R2} (ho : OpR X (binaryOp op) r) (ha : PE X a ta) (hb : PE X b tb) : PE X (.BinOp a op b pos) (tOp r ta tb) := by
  intro pins s σ H Q I h
  exact wpAny_BinOp (binT ha hb I h fun v u s2 x y H2 I2 rx ry q => ho pins s2 σ H2 x y v u Q I2 rx ry q)
theorem pe_un {op : UnaryOp} {r : V → Hp → VK → Prop} (ho : UnR X (unaryOp op) r) (ha : PE X a ta) : PE X (.UnaryOp op a pos) (tUn r ta) := by
  intro pins s σ H Q I h
  exact UnaryOp_ (thn (ha pins s σ H _ I h) fun v s1 ⟨x, H1, I1, r1, q1⟩ => ho pins s1 σ H1 x v Q I1 r1 q1)

theorem opI {f : Value → Value → Sem Value} {C : Int → Int → Prop} {g : Int → Int → Int}
    (rule : ∀ (i j : Int) (t u : Tok) (s : Shared) (Q : Value → Shared → Prop) (E : Value → Shared → Prop), C i j → Q (.int (g i j) s.toks) { s with toks := s.toks + 1 } → wpAny (model X.prog X.w) X.A (f (.int i t) (.int j u)) Q E s) :
    OpR X f (rI C fun i j => .int (g i j)) := by
  intro pins s σ H x y v u Q I rx ry h
  obtain ⟨i, j, rfl, rfl, hc, q⟩ := h
  obtain ⟨t, rfl⟩ := rx
  obtain ⟨t', rfl⟩ := ry
  exact rule i j t t' s _ _ hc ⟨.int (g i j), H, I.tok _, ⟨_, rfl⟩, q⟩
theorem opI0 {f : Value → Value → Sem Value} {g : Int → Int → Int}
    (rule : ∀ (i j : Int) (t u : Tok) (s : Shared) (Q : Value → Shared → Prop) (E : Value → Shared → Prop), Q (.int (g i j) s.toks) { s with toks := s.toks + 1 } → wpAny (model X.prog X.w) X.A (f (.int i t) (.int j u)) Q E s) :
    OpR X f (rI0 fun i j => .int (g i j)) := by
  intro pins s σ H x y v u Q I rx ry h
  obtain ⟨i, j, rfl, rfl, q⟩ := h
  obtain ⟨t, rfl⟩ := rx
  obtain ⟨t', rfl⟩ := ry
  exact rule i j t t' s _ _ ⟨.int (g i j), H, I.tok _, ⟨_, rfl⟩, q⟩
theorem opB0 {f : Value → Value → Sem Value} {g : Int → Int → Bool}
    (rule : ∀ (i j : Int) (t u : Tok) (s : Shared) (Q : Value → Shared → Prop) (E : Value → Shared → Prop), Q (.bool (g i j)) s → wpAny (model X.prog X.w) X.A (f (.int i t) (.int j u)) Q E s) :
    OpR X f (rI0 fun i j => .bl (g i j)) := by
  intro pins s σ H x y v u Q I rx ry h
  obtain ⟨i, j, rfl, rfl, q⟩ := h
  obtain ⟨t, rfl⟩ := rx
  obtain ⟨t', rfl⟩ := ry
  exact rule i j t t' s _ _ ⟨.bl (g i j), H, I, rfl, q⟩

noncomputable def CDiv (i j : Int) : Prop := 0 < j ∧ j < 1073741824
noncomputable def CPow (i j : Int) : Prop := 0 ≤ j ∧ j ≤ 1000000 ∧ i.natAbs < 2 ^ 64
noncomputable def CMul (i j : Int) : Prop := (-(2 ^ 64) < i ∧ i < 2 ^ 64) ∨ (-(2 ^ 64) < j ∧ j < 2 ^ 64)
theorem CMul.ok {i j : Int} (h : CMul i j) : IntMulOk i j := by
  rcases h with ⟨h1, h2⟩ | ⟨h1, h2⟩
  · exact .of_left (intBits_le_64 h1 h2)
  · exact .of_right (intBits_le_64 h1 h2)

theorem op_add : OpR X (binaryOp .Add) (rI0 fun i j => .int (i + j)) := opI0 fun _ _ _ _ _ _ _ q => add_int q
theorem op_sub : OpR X (binaryOp .Sub) (rI0 fun i j => .int (i - j)) := opI0 fun _ _ _ _ _ _ _ q => sub_int q
theorem op_mul : OpR X (binaryOp .Mult) (rI CMul fun i j => .int (i * j)) := opI fun _ _ _ _ _ _ _ hc q => mul_int q hc.ok
theorem op_fdiv : OpR X (binaryOp .FloorDiv) (rI CDiv fun i j => .int (i / j)) := opI fun i j _ _ _ _ _ hc q => by
  have h1 : (0 : Int) < j := hc.1
  have h2 : j < 1073741824 := hc.2
  exact floordiv_int (by omega) (by rw [Int.fdiv_eq_ediv_of_nonneg i (by omega)]; exact q) (.inl (PyProof.noPylong_small (by omega)))
theorem op_mod : OpR X (binaryOp .Mod) (rI (fun _ j => 0 < j) fun i j => .int (i % j)) := opI fun i j _ _ _ _ _ hc q => by
  have h1 : (0 : Int) < j := hc
  exact mod_int' (by omega) (by rw [Int.fmod_eq_emod_of_nonneg i (by omega)]; exact q)
theorem op_pow : OpR X (binaryOp .Pow) (rI CPow fun i j => .int (i ^ j.toNat)) := opI fun _ _ _ _ _ _ _ hc q => pow_int_small hc.1 hc.2.1 hc.2.2 q


theorem unI {f : Value → Sem Value} {g : Int → Int}
    (rule : ∀ (i : Int) (t : Tok) (s : Shared) (Q : Value → Shared → Prop) (E : Value → Shared → Prop), Q (.int (g i) s.toks) { s with toks := s.toks + 1 } → wpAny (model X.prog X.w) X.A (f (.int i t)) Q E s) :
    UnR X f (rU fun i => .int (g i)) := by
  intro pins s σ H x v Q I rx h
  obtain ⟨i, rfl, q⟩ := h
  obtain ⟨t, rfl⟩ := rx
  exact rule i t s _ _ ⟨.int (g i), H, I.tok _, ⟨_, rfl⟩, q⟩
theorem un_neg : UnR X (unaryOp .USub) (rU fun i => .int (-i)) := unI fun _ _ _ _ _ q => neg_int q

end

noncomputable def scal : V → V → Bool
  | .non, .non => true | .non, .int _ => true | .int _, .non => true | .non, .bl _ => true | .bl _, .non => true | .non, .str _ => true | .str _, .non => true
  | .int _, .int _ => true | .bl _, .bl _ => true | .str _, .str _ => true | .byt _, .byt _ => true
  | .int _, .str _ => true | .str _, .int _ => true | .bl _, .str _ => true | .str _, .bl _ => true
  | _, _ => false
noncomputable def rEq : R2 := fun x y H Q => scal x y = true ∧ Q (.bl (decide (x = y))) H
noncomputable def rNe : R2 := fun x y H Q => scal x y = true ∧ Q (.bl (!decide (x = y))) H

theorem dec_int {i j : Int} : decide (V.int i = V.int j) = (i == j) := by
  rw [Bool.eq_iff_iff]
  simp
theorem dec_bl {i j : Bool} : decide (V.bl i = V.bl j) = (i == j) := by
  rw [Bool.eq_iff_iff]
  simp
theorem dec_str {i j : Str} : decide (V.str i = V.str j) = (i == j) := by
  rw [Bool.eq_iff_iff]
  simp
theorem dec_byt {i j : Array UInt8} : decide (V.byt i = V.byt j) = (i.toList == j.toList) := by
  rw [Bool.eq_iff_iff]
  cases i
  cases j
  simp

section
variable {X : Cx} {a b c : Expr} {ta tb tc : TE} {pos : Pos}
theorem fin_bl {pins : List (Addr × Obj)} {σ : St} {H : Hp} {s : Shared} {Q : VK} {k k' : Bool} (I : Inv X pins σ H s) (q : Q (.bl k) H) (e : k = k') : EP X pins σ Q (.bool k') s := by
  subst e
  exact ⟨.bl k, H, I, rfl, q⟩
theorem op_eq : OpR X (compareOp .Eq) rEq := by
  intro pins s σ H x y v u Q I rx ry h
  obtain ⟨hs, q⟩ := h
  cases x with
  | non =>
    cases rx
    cases y with
    | non => cases ry; exact PySem.EqNone.eq_none_none (fin_bl I q (by simp))
    | bl j => cases ry; exact PySem.EqNone.eq_none_bool (fin_bl I q (by simp))
    | int j => obtain ⟨t', rfl⟩ := ry; exact PySem.EqNone.eq_none_int (fin_bl I q (by simp))
    | str j => obtain ⟨t', rfl⟩ := ry; exact PySem.EqNone.eq_none_str (fin_bl I q (by simp))
    | _ => exact absurd (show false = true from hs) Bool.false_ne_true
  | bl i =>
    cases rx
    cases y with
    | non => cases ry; exact PySem.EqNone.eq_bool_none (fin_bl I q (by simp))
    | bl j => cases ry; exact eq_bool (fin_bl I q dec_bl)
    | str j => obtain ⟨t', rfl⟩ := ry; exact PySem.EqMixed.eq_bool_str (fin_bl I q (by simp))
    | _ => exact absurd (show false = true from hs) Bool.false_ne_true
  | int i =>
    obtain ⟨t, rfl⟩ := rx
    cases y with
    | non => cases ry; exact PySem.EqNone.eq_int_none (fin_bl I q (by simp))
    | int j => obtain ⟨t', rfl⟩ := ry; exact eq_int (fin_bl I q dec_int)
    | str j => obtain ⟨t', rfl⟩ := ry; exact PySem.EqMixed.eq_int_str (fin_bl I q (by simp))
    | _ => exact absurd (show false = true from hs) Bool.false_ne_true
  | str i =>
    obtain ⟨t, rfl⟩ := rx
    cases y with
    | non => cases ry; exact PySem.EqNone.eq_str_none (fin_bl I q (by simp))
    | bl j => cases ry; exact PySem.EqMixed.eq_str_bool (fin_bl I q (by simp))
    | int j => obtain ⟨t', rfl⟩ := ry; exact PySem.EqMixed.eq_str_int (fin_bl I q (by simp))
    | str j => obtain ⟨t', rfl⟩ := ry; exact eq_str (fin_bl I q dec_str)
    | _ => exact absurd (show false = true from hs) Bool.false_ne_true
  | byt i =>
    obtain ⟨t, rfl⟩ := rx
    cases y with
    | byt j => obtain ⟨t', rfl⟩ := ry; exact PySem.W.eq_bytes (fin_bl I q dec_byt)
    | _ => exact absurd (show false = true from hs) Bool.false_ne_true
  | _ => cases y <;> exact absurd (show false = true from hs) Bool.false_ne_true
theorem op_ne : OpR X (compareOp .NotEq) rNe := by
  intro pins s σ H x y v u Q I rx ry h
  obtain ⟨hs, q⟩ := h
  cases x with
  | non =>
    cases rx
    cases y with
    | non => cases ry; exact PySem.EqNone.ne_none_none (fin_bl I q (by simp))
    | bl j => cases ry; exact PySem.EqNone.ne_none_bool (fin_bl I q (by simp))
    | int j => obtain ⟨t', rfl⟩ := ry; exact PySem.EqNone.ne_none_int (fin_bl I q (by simp))
    | str j => obtain ⟨t', rfl⟩ := ry; exact PySem.EqNone.ne_none_str (fin_bl I q (by simp))
    | _ => exact absurd (show false = true from hs) Bool.false_ne_true
  | bl i =>
    cases rx
    cases y with
    | non => cases ry; exact PySem.EqNone.ne_bool_none (fin_bl I q (by simp))
    | bl j => cases ry; exact ne_bool (fin_bl I q (congrArg not dec_bl))
    | str j => obtain ⟨t', rfl⟩ := ry; exact PySem.EqMixed.ne_bool_str (fin_bl I q (by simp))
    | _ => exact absurd (show false = true from hs) Bool.false_ne_true
  | int i =>
    obtain ⟨t, rfl⟩ := rx
    cases y with
    | non => cases ry; exact PySem.EqNone.ne_int_none (fin_bl I q (by simp))
    | int j => obtain ⟨t', rfl⟩ := ry; exact ne_int (fin_bl I q (congrArg not dec_int))
    | str j => obtain ⟨t', rfl⟩ := ry; exact PySem.EqMixed.ne_int_str (fin_bl I q (by simp))
    | _ => exact absurd (show false = true from hs) Bool.false_ne_true
  | str i =>
    obtain ⟨t, rfl⟩ := rx
    cases y with
    | non => cases ry; exact PySem.EqNone.ne_str_none (fin_bl I q (by simp))
    | bl j => cases ry; exact PySem.EqMixed.ne_str_bool (fin_bl I q (by simp))
    | int j => obtain ⟨t', rfl⟩ := ry; exact PySem.EqMixed.ne_str_int (fin_bl I q (by simp))
    | str j => obtain ⟨t', rfl⟩ := ry; exact ne_str (fin_bl I q (congrArg not dec_str))
    | _ => exact absurd (show false = true from hs) Bool.false_ne_true
  | byt i =>
    obtain ⟨t, rfl⟩ := rx
    cases y with
    | byt j => obtain ⟨t', rfl⟩ := ry; exact PySem.W.ne_bytes (fin_bl I q (congrArg not dec_byt))
    | _ => exact absurd (show false = true from hs) Bool.false_ne_true
  | _ => cases y <;> exact absurd (show false = true from hs) Bool.false_ne_true

theorem op_lt : OpR X (compareOp .Lt) (rI0 fun i j => .bl (decide (i < j))) := opB0 fun _ _ _ _ _ _ _ q => lt_int q
theorem op_gt : OpR X (compareOp .Gt) (rI0 fun i j => .bl (decide (j < i))) := opB0 fun _ _ _ _ _ _ _ q => gt_int q
theorem op_ge : OpR X (compareOp .GtE) (rI0 fun i j => .bl (decide (j ≤ i))) := opB0 fun _ _ _ _ _ _ _ q => ge_int q




theorem nomark (b : Expr) {op : CmpOp} (h : op ≠ .In := by decide) (h2 : op ≠ .NotIn := by decide) : behindInMarks op b = false := by
  have e1 : (op == CmpOp.In) = false := by cases op <;> first | rfl | exact absurd rfl h
  have e2 : (op == CmpOp.NotIn) = false := by cases op <;> first | rfl | exact absurd rfl h2
  cases b <;> simp [behindInMarks, e1, e2]
theorem pe_cmpR {op : CmpOp} {r : R2} (ho : OpR X (compareOp op) r) (ha : PE X a ta) (hb : PE X b tb) (hm : behindInMarks op b = false) : PE X (.Compare a [op] [b] pos) (tOp r ta tb) := by
  intro pins s σ H Q I h
  exact wpAny_Compare1 (binT ha hb I h fun v u s2 x y H2 I2 rx ry q => ho pins s2 σ H2 x y v u Q I2 rx ry q) hm
noncomputable def tTest (t : TE) : TT := fun σ H Q => t σ H fun x H' => ∃ k, x = .bl k ∧ Q k H'
theorem pt_cmpR {op : CmpOp} {r : R2} (ho : OpR X (compareOp op) r) (ha : PE X a ta) (hb : PE X b tb) (hm : behindInMarks op b = false) : PT X (.Compare a [op] [b] pos) (tTest (tOp r ta tb)) := by
  intro pins s σ H Q I h
  refine wpAny_isTrue_Compare1 (thn (ha pins s σ H _ I h) fun v s1 ⟨x, H1, I1, r1, q1⟩ => thn (hb pins s1 σ H1 _ I1 q1) fun u s2 ⟨y, H2, I2, r2, q2⟩ =>
    thn (ho pins s2 σ H2 x y v u _ I2 r1 r2 q2) fun c s3 ⟨z, H3, I3, r3, k, e, q3⟩ => ?_) hm
  subst e
  cases r3
  exact wpAny_truthy_bool ⟨H3, I3, q3⟩

theorem line63 : (sizeLine : Nat) < 2 ^ 63 := by rw [sizeLine_eq]; decide

theorem op_add_str : OpR X (binaryOp .Add) (fun x y H Q => ∃ i j, x = .str i ∧ y = .str j ∧ i.length + j.length ≤ sizeLine ∧ Q (.str (i ++ j)) H) := by
  intro pins s σ H x y v u Q I rx ry h
  obtain ⟨i, j, rfl, rfl, hz, q⟩ := h
  obtain ⟨t, rfl⟩ := rx
  obtain ⟨t', rfl⟩ := ry
  exact add_str (fun t' tk => ⟨.str (i ++ j), H, I.tok _, ⟨_, rfl⟩, q⟩) hz


theorem vals1 {x : V} {us : List Value} (r : Vals [x] us) : ∃ u, us = [u] ∧ RelV x u := by
  cases r with
  | cons r1 r2 => cases r2; exact ⟨_, rfl, r1⟩
theorem vals2 {x y : V} {us : List Value} (r : Vals [x, y] us) : ∃ u w', us = [u, w'] ∧ RelV x u ∧ RelV y w' := by
  cases r with
  | cons r1 r2 =>
    cases r2 with
    | cons r3 r4 => cases r4; exact ⟨_, _, rfl, r1, r3⟩
theorem call_max2 (hc : X.calm = true) : CallR X (.builtin "max") (fun xs H Q => ∃ i j, xs = [.int i, .int j] ∧ Q (.int (if j > i then j else i)) H) := by
  intro pins s σ H xs us Q I r h
  obtain ⟨i, j, rfl, q⟩ := h
  obtain ⟨u, w', rfl, ⟨t, rfl⟩, ⟨t', rfl⟩⟩ := vals2 r
  refine max_two_ints (I.ok.hd hc) fun h' tk k => ⟨_, H, I.kept k, ?_, q⟩
  by_cases hj : j > i
  · rw [if_pos hj, if_pos hj]; exact ⟨_, rfl⟩
  · rw [if_neg hj, if_neg hj]; exact ⟨_, rfl⟩
theorem call_min2 (hc : X.calm = true) : CallR X (.builtin "min") (fun xs H Q => ∃ i j, xs = [.int i, .int j] ∧ Q (.int (if j < i then j else i)) H) := by
  intro pins s σ H xs us Q I r h
  obtain ⟨i, j, rfl, q⟩ := h
  obtain ⟨u, w', rfl, ⟨t, rfl⟩, ⟨t', rfl⟩⟩ := vals2 r
  refine min_two_ints (I.ok.hd hc) fun h' tk k => ⟨_, H, I.kept k, ?_, q⟩
  by_cases hj : j < i
  · rw [if_pos hj, if_pos hj]; exact ⟨_, rfl⟩
  · rw [if_neg hj, if_neg hj]; exact ⟨_, rfl⟩
theorem call_int1 : CallR X (.type "int") (fun xs H Q => (∃ i, xs = [.int i] ∧ Q (.int i) H) ∨ ∃ k, xs = [.bl k] ∧ Q (.int (if k then 1 else 0)) H) := by
  intro pins s σ H xs us Q I r h
  rcases h with ⟨i, rfl, q⟩ | ⟨k, rfl, q⟩
  · obtain ⟨u, rfl, t, rfl⟩ := vals1 r
    exact call_int_int ⟨.int i, H, I, ⟨_, rfl⟩, q⟩
  · obtain ⟨u, rfl, r1⟩ := vals1 r
    cases r1
    exact call_int_bool ⟨.int (if k then 1 else 0), H, I.tok _, ⟨_, rfl⟩, q⟩
end
end L2

namespace L2
open PySem PySem.Spec PyProof.Rows

structure ObjM (h : Heap) (x dx C : Addr) (mA : Str → Option Value) : Prop where
  obj : h.get? x = some (PySem.W.instObj C dx)
  ns : h.Ns1 dx mA
  ne : dx ≠ x

theorem lookIn_ns {h : Heap} {dx : Addr} {mA : Str → Option Value} (n : h.Ns1 dx mA) : ∃ od, h.get? dx = some od ∧ ∀ name, PySem.W.lookIn name od = some (mA name) := by
  obtain ⟨o, es, ep, ho, hd, hk, _, hm⟩ := n
  refine ⟨o, ho, fun name => ?_⟩
  have e := hm name
  unfold nsFind findBy at e
  rw [← Array.find?_toList] at e
  unfold PySem.W.lookIn
  rw [hd]
  dsimp only
  split
  · rename_i y q
    rw [q] at e
    exact congrArg some e
  · rename_i q
    rw [q] at e
    have a : es.toList.any (·.refKey) = false := by
      rw [List.any_eq_false]
      intro y hy
      obtain ⟨z, t, hkey⟩ := hk y (Array.mem_toList_iff.mp hy)
      simp [DictEntry.refKey, hkey]
    have a' : ¬ es.toList.any (·.refKey) = true := by rw [a]; exact Bool.false_ne_true
    rw [if_neg a']
    exact congrArg some e

theorem ObjM.look {h : Heap} {x dx C : Addr} {mA : Str → Option Value} (I : ObjM h x dx C mA) : ∃ od, PySem.W.InstAt h x (PySem.W.instObj C dx) C (some od) ∧ ∀ name, PySem.W.lookIn name od = some (mA name) :=
  let ⟨od, ho, hl⟩ := lookIn_ns I.ns
  ⟨od, ⟨I.obj, rfl, rfl, ho⟩, hl⟩

section
variable {prog : Program} {w : World} {A : Around} {E : Value → Shared → Prop} {s : Shared} {K : PySem.W.Frag} {x dx C f : Addr} {mA : Str → Option Value} {name : Str} {v : Value}





end



section
variable {P : Program} {w : World} {H H' : Hp} {h h' : Heap} {a C dx : Addr} {fs fs' : List (Str × V)}
theorem ins_get (hok : HOk P w H h) (e : H a = some (.ins C dx fs)) : ∃ mA, ObjM h a dx C mA ∧ (∀ f, RelO (fs.lookup f) (mA f)) ∧ PySem.Within mA (fs.map (·.1)) ∧ fs.length ≤ 1000 ∧ H dx = some (.own a) := by
  obtain ⟨d, z, ne, ob, mA, n, r, q⟩ := (show ObjOk P w H h a (.ins C dx fs) from hok a _ e)
  exact ⟨mA, ⟨ob, n, ne⟩, r, q, z, d⟩
end

structure Cls (K : PySem.W.Frag) (C : Addr) : Prop where
  pg : PySem.W.plainGet K C Str.empty = true
  hd : PySem.W.hasDictIn K C = true
  po : PySem.W.plainOver K C = true
  sa : PySem.W.findIn K (.ref C) "__setattr__" = some (some (.builtin "object.__setattr__"))
theorem Cls.get {K : PySem.W.Frag} {C : Addr} (c : Cls K C) (f : Str) : PySem.W.plainGet K C f = true := c.pg
structure Con (K : PySem.W.Frag) (C : Addr) (f : Str) (v : V) (u : Value) : Prop where
  at_ : PySem.W.findIn K (.ref C) f = some (some u)
  rel : RelV v u
  get : PySem.W.specialIn K u "__get__" = some none
  cp : PySem.W.copiedNames.contains f = false
structure Meth (K : PySem.W.Frag) (C : Addr) (m : Str) (f : Addr) : Prop where
  at_ : PySem.W.findIn K (.ref C) m = some (some (.ref f))
  fn : PySem.W.isFn K (.ref f) = true
  kp : PySem.W.keepIn K (.ref f) = true

section
variable {X : Cx} {pins : List (Addr × Obj)} {σ : St} {H : Hp} {s : Shared} {a C dx : Addr} {fs : List (Str × V)} {f : Str} {v : V} {A : Around} {E : Value → Shared → Prop}






end


section
variable {X : Cx} {o e value : Expr} {f : Str} {pos pos' tpos : Pos} {ta tv : TE}

end

section
variable {X : Cx} {pins : List (Addr × Obj)} {σ : St} {H : Hp} {s : Shared} {A : Around} {E : Value → Shared → Prop} {Q : Value → Shared → Prop} {c : Value} {b : Bool}
inductive TyOf (K : PySem.W.Frag) (H : Hp) : V → Value → Prop where
  | non : TyOf K H .non (.type "NoneType")
  | bl (x : Bool) : TyOf K H (.bl x) (.type "bool")
  | int (i : Int) : TyOf K H (.int i) (.type "int")
  | str (x : Str) : TyOf K H (.str x) (.type "str")
  | flt (x : UInt64) : TyOf K H (.flt x) (.type "float")
  | lst {a : Addr} {xs : List V} (e : H a = some (.lst xs)) : TyOf K H (.ref a) (.type "list")
  | frz {a : Addr} {o : Obj} {xs : List V} (e : H a = some (.frz o (.lst xs))) : TyOf K H (.ref a) (.type "list")
  | tup {a : Addr} {xs : List V} (e : H a = some (.tup xs)) : TyOf K H (.ref a) (.type "tuple")
  | dK {a : Addr} {kvs : List (Key × V)} (e : H a = some (.dK kvs)) : TyOf K H (.ref a) (.type "dict")
  | dT {a : Addr} {kvs : List (List Key × V)} (e : H a = some (.dT kvs)) : TyOf K H (.ref a) (.type "dict")
  | ins {a C dx : Addr} {fs : List (Str × V)} (e : H a = some (.ins C dx fs)) (cl : Cls K C) (ha : PySem.W.findIn K (.ref C) "__class__" = some (some (.builtin "object.__class__")))
      (hn : PySem.W.specialIn K (.builtin "object.__class__") "__get__" = some (some (.builtin "getset_descriptor.__get__"))) (htk : PySem.W.takesIn K (.builtin "object.__class__") = some true)
      (hm : PySem.W.mroIn K C (.type "object") = some true) : TyOf K H (.ref a) (.ref C)
theorem isinst_ok {x : V} {u t : Value} (I : Inv X pins σ H s) (rx : RelV x u) (ty : TyOf X.K H x t) (e : PySem.W.kitOne X.K t c = some b) (h : ∀ tk, Q (.bool b) { s with toks := tk }) :
    wpAny (model X.prog X.w) A (call (.builtin "isinstance") [u, c]) Q E s := by
  cases ty with
  | non => cases (show u = Value.none from rx); exact PySem.W.kia_one PySem.W.kitx_none I.kIn True.intro e (fun z => nomatch z) h
  | bl y => cases (show u = Value.bool y from rx); exact PySem.W.kia_one PySem.W.kitx_bool I.kIn True.intro e (fun z => nomatch z) h
  | int i => obtain ⟨t, q⟩ := (show ∃ t, u = Value.int i t from rx); cases q; exact PySem.W.kia_one PySem.W.kitx_int I.kIn True.intro e (fun z => nomatch z) h
  | str y => obtain ⟨t, q⟩ := (show ∃ t, u = Value.str y t from rx); cases q; exact PySem.W.kia_one PySem.W.kitx_str I.kIn True.intro e (fun z => nomatch z) h
  | flt y => obtain ⟨t, q⟩ := (show ∃ t, u = Value.float y t from rx); cases q; exact PySem.W.kia_one PySem.W.kitx_float I.kIn True.intro e (fun z => nomatch z) h
  | @lst a xs ea =>
    cases (show u = Value.ref a from rx)
    obtain ⟨_, _, n, _, h1⟩ := (show ObjOk X.prog X.w H s.heap a (.lst xs) from I.hok a _ ea)
    exact PySem.W.kia_one PySem.W.kitx_list I.kIn ⟨_, h1, rfl⟩ e (fun z => nomatch z) h
  | @frz a ob xs ea =>
    cases (show u = Value.ref a from rx)
    obtain ⟨_, _, _, n, _, h1⟩ := (show ObjOk X.prog X.w H s.heap a (.frz ob (.lst xs)) from I.hok a _ ea)
    exact PySem.W.kia_one PySem.W.kitx_list I.kIn ⟨_, h1, rfl⟩ e (fun z => nomatch z) h
  | @tup a xs ea =>
    cases (show u = Value.ref a from rx)
    obtain ⟨_, _, _, p⟩ := (show ObjOk X.prog X.w H s.heap a (.tup xs) from I.hok a _ ea)
    obtain ⟨o, h1, h2, _⟩ := p
    exact PySem.W.kia_one PySem.W.kitx_tuple I.kIn ⟨o, h1, h2⟩ e (fun z => nomatch z) h
  | @dK a kvs ea =>
    cases (show u = Value.ref a from rx)
    obtain ⟨_, _, vs, _, p⟩ := (show ObjOk X.prog X.w H s.heap a (.dK kvs) from I.hok a _ ea)
    obtain ⟨o, es, ep, h1, h2, _⟩ := p
    exact PySem.W.kia_one PySem.W.kitx_dict I.kIn ⟨o, h1, h2.1⟩ e (fun z => nomatch z) h
  | @dT a kvs ea =>
    cases (show u = Value.ref a from rx)
    obtain ⟨_, _, xs, _, o, es, ep, h1, h2, _⟩ := (show ObjOk X.prog X.w H s.heap a (.dT kvs) from I.hok a _ ea)
    exact PySem.W.kia_one PySem.W.kitx_dict I.kIn ⟨o, h1, h2.1⟩ e (fun z => nomatch z) h
  | @ins a C dx fs ea cl ha hn htk hm =>
    cases (show u = Value.ref a from rx)
    obtain ⟨mA, O, _⟩ := ins_get I.hok ea
    obtain ⟨od, J, _⟩ := O.look
    exact PySem.W.kia_one (PySem.W.kitx_own (cl.get _) cl.hd ha hn htk hm) I.kIn J e (fun z => nomatch z) h
end
end L2

namespace L2
open PySem PySem.Spec PyProof.Rows

structure Room (k : Nat) (A : Around) : Prop where
  hd : A.handled = none
  dp : A.depth + 3 * k + 5 < recursionLimit
  un : A.units + 16 * k + 200 < cLine
theorem Room.mono {j k : Nat} {A : Around} (r : Room k A) (h : j ≤ k) : Room j A := ⟨r.hd, by have := r.dp; omega, by have := r.un; omega⟩
theorem Room.deeper {k : Nat} {A : Around} (r : Room (k + 1) A) (env : Env) : Room k (A.deeper env) :=
  ⟨r.hd, by have := r.dp; show A.depth + 1 + 3 * k + 5 < _; omega, by have := r.un; show A.units + 3 + 16 * k + 200 < _; omega⟩
theorem Room.depth {k : Nat} {A : Around} (r : Room k A) : A.depth < recursionLimit := by have := r.dp; omega
theorem Room.units {k : Nat} {A : Around} (r : Room k A) : A.units + 64 < cLine := by have := r.un; omega

noncomputable def tNil : TA := fun _ H Q => Q [] H
noncomputable def tCons (ta : TE) (tr : TA) : TA := fun σ H Q => ta σ H fun x H1 => tr σ H1 fun xs H2 => Q (x :: xs) H2
section
variable {X : Cx} {e : Expr} {es : List Expr} {te : TE} {t : TA} {pos : Pos}
theorem pa_nil : PA X [] tNil := fun _ _ _ _ H Q I h => Calls.spliced_nil ⟨[], H, I, .nil, h⟩
theorem pa_cons (ha : PE X e te) (hr : PA X es t) (hs : starEach (e :: es) X.env = (false, eval e X.env) :: starEach es X.env := by rfl) : PA X (e :: es) (tCons te t) := by
  intro pos pins s σ H Q I h
  rw [hs]
  show wpAny _ _ (spliced ((false, eval e X.env) :: backTo pos (starEach es X.env))) _ _ s
  refine Calls.spliced_cons (thn (ha pins s σ H _ I h) fun u s1 ⟨x, H1, I1, r1, q1⟩ => ?_)
  exact thn (hr pos pins s1 σ H1 _ I1 q1) fun us s2 ⟨xs, H2, I2, r2, q2⟩ => ⟨x :: xs, H2, I2, .cons r1 r2, q2⟩

noncomputable def tTup (t : TA) : TE := fun σ H Q => t σ H fun xs H1 => xs.length ≤ sizeLine ∧ ∀ p, H1 p = none → Q (.ref p) (upd H1 p (.tup xs))
noncomputable def tLst (t : TA) : TE := fun σ H Q => t σ H fun xs H1 => xs.length ≤ sizeLine ∧ ∀ p, H1 p = none → Q (.ref p) (upd H1 p (.lst xs))
theorem pe_tup {x1} (h : PA X es t) : PE X (.Tuple es x1 pos) (tTup t) := by
  intro pins s σ H Q I hq
  refine wpAny_Tuple_spliced (thn (h pos pins s σ H _ I hq) fun us s1 ⟨xs, H1, I1, r, z, q⟩ => ⟨by rw [← r.length]; exact z, ?_⟩)
  have hf : H1 s1.heap.objs.size = none := I1.hok.fresh (Nat.le_refl _)
  refine ⟨.ref s1.heap.objs.size, upd H1 s1.heap.objs.size (.tup xs), I1.laid (t' := s1.toks) (fun b u e => Heap.get?_push_of_some _ e) (Nat.le_refl _) ?_, rfl, q _ hf⟩
  exact ⟨z, us, r, ⟨_, Heap.get?_push_size _ rfl, rfl, _, rfl⟩⟩
theorem pe_lst (h : PA X es t) : PE X (.List es pos) (tLst t) := by
  intro pins s σ H Q I hq
  refine wpAny_List_spliced (thn (h pos pins s σ H _ I hq) fun us s1 ⟨xs, H1, I1, r, z, q⟩ => ⟨by rw [← r.length]; exact z, ?_⟩)
  have hf : H1 s1.heap.objs.size = none := I1.hok.fresh (Nat.le_refl _)
  refine ⟨.ref s1.heap.objs.size, upd H1 s1.heap.objs.size (.lst xs), I1.laid (t' := s1.toks) (fun b u e => Heap.get?_push_of_some _ e) (Nat.le_refl _) ?_, rfl, q _ hf⟩
  exact ⟨z, us, 0, r, Heap.get?_push_size _ rfl⟩
end

abbrev Sp := List V → Hp → VK → XK → Prop
abbrev CXT := List Env → Hp → Shared → XK → Value → Shared → Prop

structure Env0 (P : Program) (w : World) (K : PySem.W.Frag) (mg : Str → Option Value) (base : Heap) (A : Around) (outer : List Env) (s : Shared) (H : Hp) : Prop where
  frames : A.frames = some outer
  mod : Mod K mg base
  bs : ∀ b o, base.get? b = some o → s.heap.get? b = some o ∧ H b = none
  bsz : base.objs.size ≤ s.heap.objs.size
  funs : s.heap.FunFrames base outer
  frf : ∀ b ∈ frs outer, H b = none
  hok : HOk P w H s.heap
  bare : AllBare s.gens
noncomputable def CE (outer : List Env) (P : Program) (w : World) (H : Hp) (s : Shared) (Q : VK) (u : Value) (s' : Shared) : Prop :=
  ∃ v H', s'.os = s.os ∧ AllBare s'.gens ∧ Un (frs outer) [] H H' s.heap s'.heap ∧ HOk P w H' s'.heap ∧ RelV v u ∧ Q v H'
noncomputable def CR (CX : CXT) (outer : List Env) (P : Program) (w : World) (H : Hp) (s : Shared) (Q : VK) (E : XK) (r : Result) (s' : Shared) : Prop :=
  match r with
  | .ok (.ret u) => CE outer P w H s Q u s'
  | .ok _ => False
  | .error e => CX outer H s E e s'
structure FnOk (P : Program) (w : World) (K : PySem.W.Frag) (mg : Str → Option Value) (base : Heap) (CX : CXT) (k : Nat) (f : Addr) (fd : FuncData) (ps : List Str) (sp : Sp) : Prop where
  len : ∀ vs H Q E, sp vs H Q E → vs.length = ps.length
  run : ∀ (A : Around) (outer : List Env) (s : Shared) (H : Hp) (args : Args) (us : List Value) (vs : List V) (Q : VK) (E : XK), Room k A → Env0 P w K mg base A outer s H → BindsTo s fd args (ps.zip us) → Vals vs us → sp vs H Q E →
    codeAny (model P w) A (.call (.ref f) args) (CR CX outer P w H s Q E) s


section
variable {X : Cx} {pins : List (Addr × Obj)} {σ : St} {H : Hp} {s s' : Shared}
theorem Inv.env0 (I : Inv X pins σ H s) : Env0 X.prog X.w X.K X.mg X.base X.A X.stack s H :=
  ⟨I.ok.frames, I.ok.mod, I.bs, Nat.le_trans I.ok.bsz I.sz, I.stack, I.stkFree, I.hok, I.bare⟩
theorem Inv.after {Q : VK} {u : Value} (I : Inv X pins σ H s) (h : CE X.stack X.prog X.w H s Q u s') : EP X pins σ Q u s' := by
  obtain ⟨v, H', os, bare, un, hok, r, q⟩ := h
  obtain ⟨hh, g, d, t, os'⟩ := s'
  obtain rfl : os' = s.os := os
  exact ⟨v, H', I.call (h' := hh) (g' := g) (d' := d) (t' := t) (ch := []) un hok bare (fun b z => absurd z (by simp)), r, q⟩
end

noncomputable def tCall (sp : Sp) (dvs : List V) (E : XK) (t : TA) : TE := fun σ H Q => t σ H fun vs H1 => sp (vs ++ dvs) H1 Q E

noncomputable def Binds (K : PySem.W.Frag) (fd : FuncData) (ps : List Str) (ds : List Value) : Prop :=
  ∀ (s : Shared) (us : List Value), K.In s.heap → (us ++ ds).length = ps.length → BindsTo s fd ⟨us, []⟩ (ps.zip (us ++ ds))
theorem Binds.all {K : PySem.W.Frag} {fd : FuncData} {ps : List Str} (h : ∀ us : List Value, us.length = ps.length → bindArgs fd ⟨us, []⟩ = pure (ps.zip us)) : Binds K fd ps [] := fun s us _ hl => by
  rw [List.append_nil] at hl ⊢
  exact .of_eq (h us hl)

noncomputable def Passes (CX : CXT) (X : Cx) (E : XK) : Prop := ∀ (pins : List (Addr × Obj)) (σ : St) (H : Hp) (s : Shared) (e : Value) (s' : Shared), Inv X pins σ H s → CX X.stack H s E e s' → X.xe e s'

section
variable {X : Cx} {CX : CXT} {k : Nat} {f C : Addr} {fd : FuncData} {ps : List Str} {sp : Sp} {dvs : List V} {ds : List Value} {E : XK} {x m : Str} {p pos apos : Pos} {e o : Expr} {es : List Expr} {ta : TE} {t : TA}

theorem run_fn {pins : List (Addr × Obj)} {σ : St} {H : Hp} {s : Shared} {Q : VK} {us : List Value} {vs : List V} (F : FnOk X.prog X.w X.K X.mg X.base CX k f fd ps sp) (hr : Room k X.A) (hb : Binds X.K fd ps ds) (hd : Vals dvs ds) (hx : Passes CX X E)
    (I : Inv X pins σ H s) (r : Vals vs us) (h : sp (vs ++ dvs) H Q E) : wpAny (model X.prog X.w) X.A (call (.ref f) us) (EP X pins σ Q) X.xe s := by
  have r2 : Vals (vs ++ dvs) (us ++ ds) := r.append hd
  have hl : (us ++ ds).length = ps.length := by rw [← r2.length]; exact F.len _ _ _ _ h
  refine wpAny_call (codeAny_mono (F.run X.A X.stack s H ⟨us, []⟩ (us ++ ds) (vs ++ dvs) Q E hr I.env0 (hb s us I.kIn hl) r2 h) fun r s' hq => ?_)
  cases r with
  | error e => exact hx pins σ H s e s' I hq
  | ok fl =>
    cases fl with
    | ret u => exact I.after hq
    | next => exact False.elim hq
    | brk => exact False.elim hq
    | cont => exact False.elim hq

theorem pe_call (F : FnOk X.prog X.w X.K X.mg X.base CX k f fd ps sp) (hr : Room k X.A) (hg : Gl X x) (hm : X.mg x = some (.ref f)) (hk : PySem.W.keepIn X.K (.ref f) = true) (hb : Binds X.K fd ps ds) (hd : Vals dvs ds) (hx : Passes CX X E)
    (ha : PA X (e :: es) t) (hdb : (x == ("__debug__" : Str)) = false := by decide) (he : starEach (e :: es) X.env = (false, eval e X.env) :: starEach es X.env := by rfl) (hpl : (backTo pos (starEach es X.env)).any (·.1) = false := by rfl) :
    PE X (.Call (.Name x p) (e :: es) [] pos) (tCall sp dvs E t) := by
  intro pins s σ H Q I h
  refine wpAny_Call_Name_kw (ld_glob I hg hm ?_ hdb)
  refine PySem.W.callWith_K (h₀ := X.base) I.ok.mod.kin hk (thn (ha pos pins s σ H _ I h) fun us s1 ⟨vs, H1, I1, r, q⟩ => ⟨I1.kIn, ?_⟩) he hpl
  exact run_fn F hr hb hd hx I1 r q


structure Mk (K : PySem.W.Frag) (C f : Addr) : Prop where
  makes : PySem.W.makesIn K C = true
  init : PySem.W.findIn K (.ref C) "__init__" = some (some (.ref f))
  fn : PySem.W.isFn K (.ref f) = true
  kp : PySem.W.keepIn K (.ref C) = true

end

section
variable {X : Cx} {CX : CXT} {k : Nat} {f C : Addr} {fd : FuncData} {ps ks : List Str} {sp : Sp} {E : XK} {x m : Str} {p pos apos kpos : Pos} {e o : Expr} {es : List Expr} {kws : List Keyword} {te ta : TE} {t tk : TA} {nm : Option Str}

structure KBinds (K : PySem.W.Frag) (fd : FuncData) (ps ks : List Str) (g : List Value → List Value → List Value) (gV : List V → List V → List V) : Prop where
  to : ∀ (s : Shared) (us ws : List Value), K.In s.heap → (g us ws).length = ps.length → BindsTo s fd ⟨us, ks.zip ws⟩ (ps.zip (g us ws))
  rel : ∀ {vs : List V} {us : List Value} {zs : List V} {ws : List Value}, Vals vs us → Vals zs ws → Vals (gV vs zs) (g us ws)
variable {g : List Value → List Value → List Value} {gV : List V → List V → List V}
end

structure FnScope (N P : List Str) (sc : Scope) : Prop where
  kind : sc.kind = .function
  co : sc.isCoroutine = false
  gen : sc.isGenerator = false
  nd : N.Nodup
  pre : N.take P.length = P
  par : ∀ x ∈ P, sc.names.lookup x = some .local ∨ sc.names.lookup x = some .cell
  nofree : ∀ y ∈ sc.names, y.2 ≠ .free

theorem bindL_out {kindOf : Str → Option NameKind} {x : Str} : ∀ {binds : List (Str × Value)} {m : Str → Option Value}, (∀ v, (x, v) ∉ binds) → bindL kindOf binds m x = m x
  | [], _, _ => rfl
  | (n, v) :: r, m, h => by
    unfold bindL
    rw [bindL_out fun w hw => h w (List.mem_cons_of_mem _ hw)]
    split
    · have : x ≠ n := by rintro rfl; exact h v List.mem_cons_self
      simp [this]
    · rfl
theorem bindC_out {kindOf : Str → Option NameKind} {x : Str} : ∀ {binds : List (Str × Value)} {m : Str → Option Value}, (∀ v, (x, v) ∉ binds) → bindC kindOf binds m x = m x
  | [], _, _ => rfl
  | (n, v) :: r, m, h => by
    unfold bindC
    rw [bindC_out fun w hw => h w (List.mem_cons_of_mem _ hw)]
    split
    · rfl
    · have : x ≠ n := by rintro rfl; exact h v List.mem_cons_self
      simp [this]
theorem bindL_get {kindOf : Str → Option NameKind} {x : Str} {v : Value} : ∀ {P : List Str} {vs : List Value} {i : Nat} {m : Str → Option Value}, P.Nodup → P[i]? = some x → vs[i]? = some v → kindOf x = some .local →
    bindL kindOf (P.zip vs) m x = some v
  | [], _, _, _, _, h, _, _ => by simp at h
  | _ :: _, [], _, _, _, _, h, _ => by simp at h
  | p :: P, w :: vs, 0, m, nd, h1, h2, hk => by
    simp at h1 h2; subst h1; subst h2
    show bindL kindOf ((p, w) :: P.zip vs) m p = _
    unfold bindL
    rw [bindL_out fun v hv => (List.nodup_cons.mp nd).1 (List.of_mem_zip hv).1, if_pos hk]
    simp
  | p :: P, w :: vs, i + 1, m, nd, h1, h2, hk => by
    show bindL kindOf ((p, w) :: P.zip vs) m x = _
    unfold bindL
    exact bindL_get (i := i) (List.nodup_cons.mp nd).2 (by simpa using h1) (by simpa using h2) hk
theorem bindC_get {kindOf : Str → Option NameKind} {x : Str} {v : Value} : ∀ {P : List Str} {vs : List Value} {i : Nat} {m : Str → Option Value}, P.Nodup → P[i]? = some x → vs[i]? = some v → kindOf x ≠ some .local →
    bindC kindOf (P.zip vs) m x = some v
  | [], _, _, _, _, h, _, _ => by simp at h
  | _ :: _, [], _, _, _, _, h, _ => by simp at h
  | p :: P, w :: vs, 0, m, nd, h1, h2, hk => by
    simp at h1 h2; subst h1; subst h2
    show bindC kindOf ((p, w) :: P.zip vs) m p = _
    unfold bindC
    rw [bindC_out fun v hv => (List.nodup_cons.mp nd).1 (List.of_mem_zip hv).1, if_neg hk]
    simp
  | p :: P, w :: vs, i + 1, m, nd, h1, h2, hk => by
    show bindC kindOf ((p, w) :: P.zip vs) m x = _
    unfold bindC
    exact bindC_get (i := i) (List.nodup_cons.mp nd).2 (by simpa using h1) (by simpa using h2) hk

noncomputable def start (N : List Str) (vs : List V) : St := vs.map some ++ List.replicate (N.length - vs.length) none

noncomputable def cxOf (CX : CXT) (P : Program) (w : World) (K : PySem.W.Frag) (mg : Str → Option Value) (base : Heap) (N : List Str) (qual : Str) (scope : Scope) (f : Addr) (cd : Value) (A : Around) (outer : List Env) (s : Shared) (H : Hp) (E : XK) : Cx where
  prog := P
  w := w
  K := K
  mg := mg
  base := base
  A := A.deeper (envOfC qual scope s.heap.objs.size f cd)
  N := N
  s₀ := s
  H₀ := H
  env := envOfC qual scope s.heap.objs.size f cd
  outer := outer
  stack := envOfC qual scope s.heap.objs.size f cd :: outer
  ex := []
  calm := true
  fn := fun _ => true
  pn := []
  xe := fun e s' => wpAny (model P w) (A.deeper (envOfC qual scope s.heap.objs.size f cd)) (leaving (envOfC qual scope s.heap.objs.size f cd) e) (fun _ s'' => CX outer H s E e s'') (fun e' s'' => CX outer H s E e' s'') s'

theorem cell_has {sc : Scope} {n : Nat} {x : Str} (h : sc.names.lookup x = some .cell) : ∃ c, (cellsFrom n sc.names []).lookup x = some c := by
  have q := PySem.W.cellsFrom_some sc.names n [] (.inl h)
  exact Option.isSome_iff_exists.mp q

theorem inv_start {CX : CXT} {P : Program} {w : World} {K : PySem.W.Frag} {mg : Str → Option Value} {base : Heap} {N ps : List Str} {qual : Str} {scope : Scope} {f : Addr} {cd : Value} {A : Around} {outer : List Env} {s s1 : Shared} {H : Hp} {E : XK} {us : List Value} {vs : List V}
    (S : FnScope N ps scope) (hd : A.handled = none) (e0 : Env0 P w K mg base A outer s H) (hl : vs.length = ps.length) (r : Vals vs us)
    (x : InCallC s s.heap.objs.size (bindL (envOfC qual scope s.heap.objs.size f cd).kindOf (ps.zip us) fun _ => none) (cellsFrom (s.heap.objs.size + 1) scope.names []) (bindC (envOfC qual scope s.heap.objs.size f cd).kindOf (ps.zip us) fun _ => none) s1) :
    Inv (cxOf CX P w K mg base N qual scope f cd A outer s H E) [] (start N vs) H s1 := by
  have hpl : ps.length ≤ N.length := by have := congrArg List.length S.pre; rw [List.length_take] at this; omega
  obtain ⟨h1, tk, rfl, hk⟩ := x.done
  have noA : ∀ b : Addr, b ∉ (cxOf CX P w K mg base N qual scope f cd A outer s H E).ex := fun b z => absurd (show b ∈ ([] : List Addr) from z) (by simp)
  refine ⟨⟨e0.mod, S.kind, rfl, rfl, Nat.le_refl _, fun y z c h1 h2 => ?_, fun y hy => ?_, fun y c _ h => ?_, fun _ => hd, Around.frames_deeper e0.frames, .inr ⟨rfl, rfl⟩, fun b z => absurd z (noA b), e0.bs, e0.bsz, fun b _ _ => noA b, fun b z => absurd z (noA b), e0.funs, e0.frf⟩,
    rfl, e0.bare, Un.kept hk, ⟨_, x.toInCall.ns, fun i y v h1 h2 h3 => ?_⟩, fun y c h => ⟨_, x.cell y c h⟩, e0.hok.fresh (Nat.le_refl _), fun y c h => ?_, fun p hp => absurd (show p ∈ ([] : List (Addr × Obj)) from hp) (by simp), e0.hok.kept hk, ?_⟩
  · exact name_of_addr x.apart (PySem.mem_of_lookup h1) (PySem.mem_of_lookup h2)
  · have hy : scope.names.lookup y = some .cell ∨ scope.names.lookup y = some .free := hy
    rcases hy with hy | hy
    · exact cell_has hy
    · exact absurd rfl (S.nofree _ (PySem.mem_of_lookup hy))
  · exact Nat.le_of_lt (x.above y c (PySem.mem_of_lookup h))
  · have hi : i < vs.length := by
      unfold start at h2
      by_cases hi : i < vs.length
      · exact hi
      · rw [List.getElem?_append_right (by simpa using hi)] at h2
        rw [List.getElem?_replicate] at h2
        split at h2 <;> cases h2
    have ha : vs[i]? = some v := by
      unfold start at h2
      rw [List.getElem?_append_left (by simpa using hi), List.getElem?_map] at h2
      cases e : vs[i]? with
      | none => rw [e] at h2; cases h2
      | some a => rw [e] at h2; cases h2; rfl
    obtain ⟨u, hu, rv⟩ := r.get ha
    have hp : ps[i]? = some y := by
      rw [← S.pre, List.getElem?_take_of_lt (by omega)]; exact h1
    have ndP : ps.Nodup := by rw [← S.pre]; exact S.nd.sublist (List.take_sublist _ _)
    refine ⟨u, rv, ?_⟩
    rcases S.par y (List.mem_of_getElem? hp) with k | k
    · exact .inl ⟨k, bindL_get ndP hp hu k⟩
    · obtain ⟨c, e⟩ := cell_has (n := s.heap.objs.size + 1) k
      refine .inr ⟨.inl k, c, e, ?_⟩
      have q := x.cell y c e
      rw [bindC_get ndP hp hu (by show scope.names.lookup y ≠ _; rw [k]; decide)] at q
      exact q
  · exact e0.hok.fresh (Nat.le_of_lt (x.above y c (PySem.mem_of_lookup h)))
  · unfold start
    show _ = N.length
    rw [List.length_append, List.length_map, List.length_replicate]
    omega

theorem fn_of {CX : CXT} {P : Program} {w : World} {K : PySem.W.Frag} {mg : Str → Option Value} {base : Heap} {k : Nat} {f : Addr} {name qual : Str} {params : Arguments} {body : List Stmt} {scope : Scope} {dV kV doc pm cdv ct oc : Value} {an od : Option Addr}
    {osl : Array (Option Value)} {N ps : List Str} {sp : Sp} (lk : K.lookup f = some ⟨oc, od, .func (PySem.W.fnOf name qual params body scope dV kV doc pm an cdv ct), osl⟩) (hcd : PySem.W.codeIn K cdv qual = true) (S : FnScope N ps scope)
    (len : ∀ vs H Q E, sp vs H Q E → vs.length = ps.length)
    (hbody : ∀ (A : Around) (outer : List Env) (s : Shared) (H : Hp) (vs : List V) (Q : VK) (E : XK), Room k (A.deeper (envOfC qual scope s.heap.objs.size f cdv)) → sp vs H Q E →
      ∃ t, PSs (cxOf CX P w K mg base N qual scope f cdv A outer s H E) body t ∧ t { nx := fun _ H' => Q .non H', rt := Q } (start N vs) H) :
    FnOk P w K mg base CX (k + 1) f (PySem.W.fnOf name qual params body scope dV kV doc pm an cdv ct) ps sp := by
  refine ⟨len, fun A outer s H args us vs Q E hr e0 hb r hsp => ?_⟩
  have hl := len _ _ _ _ hsp
  have KX : K.In s.heap := e0.mod.kin.keeps fun b o e => (e0.bs b o e).1
  have lim : s.heap.NoLimit := e0.mod.nolimit.keeps fun b o e => (e0.bs b o e).1
  have hkind : ∀ y ∈ ps.zip us, scope.names.lookup y.1 = some .local ∨ (scope.names.lookup y.1 = some .cell ∧ ((cellsFrom (s.heap.objs.size + 1) scope.names []).lookup y.1).isSome = true) := fun ⟨n, v⟩ hy => by
    rcases S.par n (List.of_mem_zip hy).1 with q | q
    · exact .inl q
    · exact .inr ⟨q, PySem.W.cellsFrom_some _ _ _ (.inl q)⟩
  refine codeAny_call_function hr.depth (KX _ _ lk) rfl S.co S.gen rfl (PySem.W.codeRec_of KX hcd) (hb _ _ _ _ ?_)
  refine wpAny_newFunctionEnv_cells S.kind hkind fun env he s1 x => ?_
  subst he
  refine ⟨lim.keeps x.toInCall.keep, codeAny_func ?_⟩
  obtain ⟨t, ht, hq⟩ := hbody A outer s H vs Q E (hr.deeper _) hsp
  have I : Inv (cxOf CX P w K mg base N qual scope f cdv A outer s H E) [] (start N vs) H s1 := inv_start S hr.hd e0 hl r x
  refine wpAny_mono (ht [] s1 (start N vs) H _ I hq) (fun fl s' hs => ?_) fun e s' hs => hs
  have fin : ∀ {σ' : St} {H' : Hp} {v : V} {u : Value}, Inv (cxOf CX P w K mg base N qual scope f cdv A outer s H E) [] σ' H' s' → RelV v u → Q v H' → CE outer P w H s Q u s' :=
    fun {σ' H' v u} J rv q => ⟨v, H', J.os, J.bare, J.base, J.hok, rv, q⟩
  cases fl with
  | ret u =>
    obtain ⟨v, σ', H', J, rv, q⟩ := hs
    exact fin J rv q
  | next =>
    obtain ⟨σ', H', J, q⟩ := hs
    exact fin (v := V.non) (u := Value.none) J rfl q
  | brk =>
    obtain ⟨_, _, _, q⟩ := hs
    exact False.elim q
  | cont =>
    obtain ⟨_, _, _, q⟩ := hs
    exact False.elim q
end L2

namespace L2
open PySem PySem.Spec PyProof.Rows
section
variable {X : Cx} {x : Str} {p pos : Pos} {e : Expr} {es : List Expr} {t : TA} {id T : String} {r : List V → Hp → VK → Prop}

noncomputable def tCB (r : List V → Hp → VK → Prop) (t : TA) : TE := fun σ H Q => t σ H fun vs H1 => r vs H1 Q
theorem pe_callB (hc : CallR X (.builtin id) r) (hg : Gl X x) (hm : X.mg x = none) (hv : bootBuiltins x = some (.builtin id)) (ha : PA X (e :: es) t) (hn : x ≠ "__name__" := by decide) (hdb : (x == ("__debug__" : Str)) = false := by decide)
    (he : starEach (e :: es) X.env = (false, eval e X.env) :: starEach es X.env := by rfl) (hpl : (backTo pos (starEach es X.env)).any (·.1) = false := by rfl) : PE X (.Call (.Name x p) (e :: es) [] pos) (tCB r t) := by
  intro pins s σ H Q I h
  refine wpAny_Call_Name_kw (ld_blt I hg hm hv ?_ hn hdb)
  exact PyProof.Rows.callWith_builtin1 (thn (ha pos pins s σ H _ I h) fun us s1 ⟨vs, H1, I1, r1, q1⟩ => hc pins s1 σ H1 vs us Q I1 r1 q1) he hpl
theorem pe_callTy (hc : CallR X (.type T) r) (hg : Gl X x) (hm : X.mg x = none) (hv : bootBuiltins x = some (.type T)) (ha : PA X (e :: es) t) (hn : x ≠ "__name__" := by decide) (hdb : (x == ("__debug__" : Str)) = false := by decide)
    (he : starEach (e :: es) X.env = (false, eval e X.env) :: starEach es X.env := by rfl) (hpl : (backTo pos (starEach es X.env)).any (·.1) = false := by rfl) : PE X (.Call (.Name x p) (e :: es) [] pos) (tCB r t) := by
  intro pins s σ H Q I h
  refine wpAny_Call_Name_kw (ld_blt I hg hm hv ?_ hn hdb)
  exact PyProof.Rows.callWith_type1 (thn (ha pos pins s σ H _ I h) fun us s1 ⟨vs, H1, I1, r1, q1⟩ => hc pins s1 σ H1 vs us Q I1 r1 q1) he hpl
end
end L2

namespace HT
open PySem PyProof.Rows



section
open PySem.SeqAt
open PySem.AutoSeq1 (wpAny_loadPart')
open PySem.MeetsSeq PySem.MeetsSeq2 PySem.MeetsSeq3

end

section
variable {prog : Program} {w : World} {A : Around} {E : Value → Shared → Prop} {s : Shared}



noncomputable def sIx (n d : Nat) : Option Int → Nat
  | none => d
  | some v => if v < 0 then (v + (n : Int)).toNat else min v.toNat n
theorem sIx_none (n d : Nat) : sIx n d none = d := rfl
theorem sIx_nat (n d k : Nat) : sIx n d (some (k : Int)) = min k n := by
  show (if (k : Int) < 0 then ((k : Int) + (n : Int)).toNat else min (k : Int).toNat n) = min k n
  rw [if_neg (by omega), Int.toNat_natCast]

end
end HT

namespace L2
open PySem PySem.Spec PyProof.Rows

abbrev TO := St → Hp → (Option Int → Hp → Prop) → Prop
noncomputable def PO (X : Cx) (e : Option Expr) (t : TO) : Prop :=
  ∀ (pins : List (Addr × Obj)) (s : Shared) (σ : St) (H : Hp) (Q : Option Int → Hp → Prop), Inv X pins σ H s → t σ H Q →
    wpAny (model X.prog X.w) X.A (evalPart e X.env) (fun u s' => ∃ o H', Inv X pins σ H' s' ∧ IsPart u o ∧ Q o H') X.xe s
noncomputable def tNoPart : TO := fun _ H Q => Q none H
noncomputable def tPart (t : TE) : TO := fun σ H Q => t σ H fun x H1 => ∃ i, x = .int i ∧ Q (some i) H1


section
variable {X : Cx} {e : Expr} {te : TE} {lo hi : Option Expr} {tl th : TO} {pos p2 : Pos}

theorem po_none : PO X none tNoPart := by
  intro pins s σ H Q I h
  rw [evalPart_none]
  exact wpAny_pure ⟨none, H, I, .none, h⟩
theorem po_some (h : PE X e te) : PO X (some e) (tPart te) := by
  intro pins s σ H Q I hw
  rw [evalPart_some]
  refine thn (h pins s σ H _ I hw) fun u s1 ⟨x, H1, I1, r1, q1⟩ => ?_
  obtain ⟨i, rfl, q⟩ := q1
  obtain ⟨t, rfl⟩ := r1
  exact ⟨some i, H1, I1, .int i t, q⟩

noncomputable def SlR (X : Cx) (r : V → Option Int → Option Int → Hp → VK → Prop) : Prop :=
  ∀ (pins : List (Addr × Obj)) (s : Shared) (σ : St) (H : Hp) (x : V) (v vl vu : Value) (lo hi : Option Int) (sl : Addr) (Q : VK), Inv X pins σ H s → RelV x v → s.heap.IsSliceOf sl vl vu .none → IsPart vl lo → IsPart vu hi → r x lo hi H Q →
    ∃ T id, typeLookup (.type T) "__getitem__" = pure (some (.builtin id)) ∧ s.TypeIs v T ∧ wpAny (model X.prog X.w) X.A (getItem v (.ref sl)) (EP X pins σ Q) X.xe s
noncomputable def tSl (r : V → Option Int → Option Int → Hp → VK → Prop) (te : TE) (tl th : TO) : TE := fun σ H Q => te σ H fun x H1 => tl σ H1 fun l H2 => th σ H2 fun u H3 => r x l u H3 Q
theorem pe_slice {r : V → Option Int → Option Int → Hp → VK → Prop} (hr : SlR X r) (he : PE X e te) (hl : PO X lo tl) (hu : PO X hi th) : PE X (.Subscript e (.Slice lo hi none p2) pos) (tSl r te tl th) := by
  intro pins s σ H Q I h
  refine Subscript_ (thn (he pins s σ H _ I h) fun v s1 ⟨x, H1, I1, r1, q1⟩ => ?_)
  refine wpAny_Slice (thn (hl pins s1 σ H1 _ I1 q1) fun vl s2 ⟨l, H2, I2, pl, q2⟩ => thn (hu pins s2 σ H2 _ I2 q2) fun vu s3 ⟨u, H3, I3, pu, q3⟩ => ?_)
  rw [evalPart_none]
  refine wpAny_pure ?_
  have I4 : Inv X pins σ H3 { s3 with heap := s3.heap.push { cls := .type "slice", data := .fields #[vl, vu, .none] } } := I3.kept (t' := s3.toks) fun b ob q => Heap.get?_push_of_some _ q
  obtain ⟨T, id, hT, ht, hg⟩ := hr pins { s3 with heap := s3.heap.push { cls := .type "slice", data := .fields #[vl, vu, .none] } } σ H3 x v vl vu l u s3.heap.objs.size Q I4 r1 (Heap.IsSliceOf.new ..) pl pu q3
  show wpAny (model X.prog X.w) X.A (subscriptTail e (.Slice lo hi none p2) v (.ref s3.heap.objs.size)) (EP X pins σ Q) X.xe { s3 with heap := s3.heap.push { cls := .type "slice", data := .fields #[vl, vu, .none] } }
  exact tail_any (ops := [.ref s3.heap.objs.size, v]) ht hT hg (by with_unfolding_all rfl)

noncomputable def cutV (xs : List V) (lo hi : Option Int) : List V := (xs.drop (HT.sIx xs.length 0 lo)).take (HT.sIx xs.length xs.length hi - HT.sIx xs.length 0 lo)
theorem cutV_length (xs : List V) (lo hi : Option Int) : (cutV xs lo hi).length ≤ xs.length := by
  unfold cutV
  rw [List.length_take, List.length_drop]
  omega

end
end L2

namespace L2
open PySem PySem.Spec PyProof.Rows

noncomputable def ixN (n : Nat) (i : Int) : Option Nat := if 0 ≤ i then (if i < n then some i.toNat else none) else if -(n : Int) ≤ i then some (i + n).toNat else none
noncomputable def atI {α : Type} (xs : List α) (i : Int) : Option α := (ixN xs.length i).bind fun j => xs[j]?
theorem ixN_seq {n : Nat} {i : Int} {j : Nat} (h : ixN n i = some j) : seqIndex? i n = some j ∧ j < n ∧ -(n : Int) ≤ i ∧ i < n := by
  unfold ixN at h
  by_cases h0 : 0 ≤ i
  · rw [if_pos h0] at h
    by_cases h1 : i < n
    · rw [if_pos h1] at h
      have e : i.toNat = j := Option.some.inj h
      exact ⟨by rw [seqIndex_of h0 h1, e], by omega, by omega, h1⟩
    · rw [if_neg h1] at h; cases h
  · rw [if_neg h0] at h
    by_cases h1 : -(n : Int) ≤ i
    · rw [if_pos h1] at h
      have e : (i + n).toNat = j := Option.some.inj h
      exact ⟨by rw [seqIndex_neg (by omega) h1, e], by omega, h1, by omega⟩
    · rw [if_neg h1] at h; cases h
theorem atI_get {α : Type} {xs : List α} {i : Int} {v : α} (h : atI xs i = some v) : ∃ j, seqIndex? i xs.length = some j ∧ xs[j]? = some v ∧ j < xs.length ∧ -(xs.length : Int) ≤ i ∧ i < xs.length := by
  unfold atI at h
  cases e : ixN xs.length i with
  | none => rw [e] at h; cases h
  | some j =>
    rw [e] at h
    obtain ⟨h1, h2, h3, h4⟩ := ixN_seq e
    exact ⟨j, h1, h, h2, h3, h4⟩
theorem atI_nat {α : Type} {xs : List α} {j : Nat} {v : α} (h : xs[j]? = some v) : atI xs (j : Int) = some v := by
  have hj : j < xs.length := (List.getElem?_eq_some_iff.mp h).1
  have e : ixN xs.length (j : Int) = some j := by
    unfold ixN
    rw [if_pos (by omega), if_pos (by omega)]; simp
  unfold atI; rw [e]; exact h

noncomputable def PlainIx (b : Expr) : Prop := ∀ o i, subscripted b false o i = operate [o, i] (getItem o i)
noncomputable def IxR (X : Cx) (r : R2) : Prop :=
  ∀ (value slice : Expr) (pins : List (Addr × Obj)) (s : Shared) (σ : St) (H : Hp) (x y : V) (v u : Value) (Q : VK), Inv X pins σ H s → RelV x v → RelV y u → r x y H Q →
    subscripted slice false v u = operate [v, u] (getItem v u) → wpAny (model X.prog X.w) X.A (subscriptTail value slice v u) (EP X pins σ Q) X.xe s
noncomputable def MtR (X : Cx) (id : String) (r : V → List V → Hp → VK → Prop) : Prop :=
  ∀ (pins : List (Addr × Obj)) (s : Shared) (σ : St) (H : Hp) (x : V) (xs : List V) (v : Value) (us : List Value) (Q : VK), Inv X pins σ H s → RelV x v → Vals xs us → r x xs H Q →
    wpAny (model X.prog X.w) X.A (call (.builtin id) (v :: us)) (EP X pins σ Q) X.xe s
section
variable {X : Cx} {a b : Expr} {ta tb : TE} {pos : Pos}
theorem pe_ix {r : R2} (hr : IxR X r) (ha : PE X a ta) (hb : PE X b tb) (hs : PlainIx b) : PE X (.Subscript a b pos) (tOp r ta tb) := by
  intro pins s σ H Q I h
  exact Subscript_ (binT ha hb I h fun v u s2 x y H2 I2 rx ry q => hr a b pins s2 σ H2 x y v u Q I2 rx ry q (hs _ _))

noncomputable def rIxL (K : PySem.W.Frag) : R2 := fun x y H Q => ∃ p xs i v, x = .ref p ∧ y = .int i ∧ SqL K H p xs ∧ atI xs i = some v ∧ Q v H
noncomputable def rIxT (K : PySem.W.Frag) : R2 := fun x y H Q => ∃ p xs i v, x = .ref p ∧ y = .int i ∧ SqT K H p xs ∧ atI xs i = some v ∧ Q v H
noncomputable def rIxS : R2 := fun x y H Q => ∃ z i c, x = .str z ∧ y = .int i ∧ z.length ≤ sizeLine ∧ atI z.cps.toList i = some c ∧ Q (.str ⟨#[c]⟩) H
theorem ix_list : IxR X (rIxL X.K) := by
  intro value slice pins s σ H x y v u Q I rx ry h hs
  obtain ⟨p, xs, i, z, rfl, rfl, hq, he, q⟩ := h
  cases rx
  obtain ⟨t, rfl⟩ := ry
  obtain ⟨its, r, pl, hz⟩ := I.list hq
  obtain ⟨j, h1, h2, h3, h4, h5⟩ := atI_get he
  obtain ⟨w, ew, rw'⟩ := r.get h2
  have hl := r.length
  have hn := line63
  have fin : EP X pins σ Q w s := ⟨z, H, I, rw', q⟩
  by_cases h0 : 0 ≤ i
  · have hj : i.toNat = j := by
      rw [seqIndex_of h0 h5] at h1
      exact Option.some.inj h1
    exact item_listR pl.isList h0 (by omega) (by rw [hj]; simpa using ew) fin hs
  · have hj : (i + (its.toArray.size : Int)).toNat = j := by
      rw [seqIndex_neg (by omega) h4] at h1
      rw [List.size_toArray, ← hl]
      exact Option.some.inj h1
    exact subscriptTail_builtinR (x := w) pl.isList.typeIs slot_list_getitem.lookup
      (wpAny_getItem_list_neg (Q := fun r s' => r = w ∧ EP X pins σ Q r s') pl.isList (by omega) (by rw [List.size_toArray] <;> omega) (by omega) (by rw [hj]; simpa using ew) ⟨rfl, fin⟩) hs
theorem ix_tup : IxR X (rIxT X.K) := by
  intro value slice pins s σ H x y v u Q I rx ry h hs
  obtain ⟨p, xs, i, z, rfl, rfl, hq, he, q⟩ := h
  cases rx
  obtain ⟨t, rfl⟩ := ry
  obtain ⟨its, r, pl, hz⟩ := I.tuple hq
  obtain ⟨j, h1, h2, h3, h4, h5⟩ := atI_get he
  obtain ⟨w, ew, rw'⟩ := r.get h2
  have hl := r.length
  have hn := line63
  have fin : EP X pins σ Q w s := ⟨z, H, I, rw', q⟩
  exact subscriptTail_builtinR (x := w) pl.typeIs slot_tuple_getitem.lookup
    (getItem_tuple (j := j) (Q := fun r s' => r = w ∧ EP X pins σ Q r s') pl (by omega) (by omega) (by rw [List.size_toArray, ← hl]; exact h1) (by simpa using ew) ⟨rfl, fin⟩) hs
theorem ix_str : IxR X rIxS := by
  intro value slice pins s σ H x y v u Q I rx ry h hs
  obtain ⟨z, i, c, rfl, rfl, hz, he, q⟩ := h
  obtain ⟨t, rfl⟩ := rx
  obtain ⟨t', rfl⟩ := ry
  obtain ⟨j, h1, h2, h3, h4, h5⟩ := atI_get he
  have hl : z.cps.toList.length = z.length := by simp [Str.length]
  rw [hl] at h1 h4 h5
  have hn := line63
  exact tail_any (typeIs_str s z t) slot_str_getitem.lookup (getItem_str (c := c) (by
    have e1 : decide (i < -(2 ^ 63 : Int)) = false := decide_eq_false (by omega)
    have e2 : decide (i ≥ 2 ^ 63) = false := decide_eq_false (by omega)
    rw [e1, e2, Bool.or_false]) (by rw [h1]; simpa using h2) ⟨.str ⟨#[c]⟩, H, I.tok _, ⟨_, rfl⟩, q⟩) hs

theorem mapSeq_set (its : List Value) (n j : Nat) (u : Value) : Obj.mapSeq (·.setIfInBounds j u) { cls := .type "list", data := .seq its.toArray n } = { cls := .type "list", data := .seq (its.set j u).toArray n } := by
  simp [Obj.mapSeq]
theorem Inv.lst {pins : List (Addr × Obj)} {σ : St} {H : Hp} {s : Shared} {p : Addr} {xs : List V} (I : Inv X pins σ H s) (h : H p = some (.lst xs)) :
    ∃ (its : List Value) (n : Nat), Vals xs its ∧ s.heap.get? p = some { cls := .type "list", data := .seq its.toArray n } ∧ xs.length ≤ sizeLine := by
  obtain ⟨z, its, n, r, e⟩ := I.hok p _ h
  exact ⟨its, n, r, e, z⟩
theorem Inv.lstUpd {pins : List (Addr × Obj)} {σ : St} {H : Hp} {s : Shared} {p : Addr} {xs ys : List V} {its its' : List Value} {n n' : Nat} {f : Obj → Obj} (I : Inv X pins σ H s) (h : H p = some (.lst xs))
    (ho : s.heap.get? p = some { cls := .type "list", data := .seq its.toArray n }) (hf : f { cls := .type "list", data := .seq its.toArray n } = { cls := .type "list", data := .seq its'.toArray n' }) (r : Vals ys its') (hz : ys.length ≤ sizeLine) (t : Nat) :
    Inv X pins σ (upd H p (.lst ys)) { s with heap := s.heap.update p f, toks := t } := by
  have e : (s.heap.update p f).get? p = some { cls := .type "list", data := .seq its'.toArray n' } := by
    rw [Heap.get?_update_self f ho (by rw [hf] <;> rfl), hf]
  refine I.write (x := p) (e := p) (by rw [h]; trivial) (.inl rfl) (fun b u hb q => (Heap.get?_update_other _ _ (Ne.symm hb)).trans q) ⟨_, e⟩ ?_
  exact ⟨hz, its', n', r, e⟩
noncomputable def rSetL : V → V → V → Hp → (Hp → Prop) → Prop := fun o i v H Q => ∃ p xs k j, o = .ref p ∧ i = .int k ∧ H p = some (.lst xs) ∧ ixN xs.length k = some j ∧ Q (upd H p (.lst (xs.set j v)))
theorem set_list : PSet X rSetL := by
  intro pins s σ H o i v ov iv u Q I ro ri rv h
  obtain ⟨p, xs, k, j, rfl, rfl, hp, hj, q⟩ := h
  cases ro
  obtain ⟨t, rfl⟩ := ri
  obtain ⟨its, n, r, ho, hz⟩ := I.lst hp
  obtain ⟨h1, h2, h3, h4⟩ := ixN_seq hj
  have hl := r.length
  have hn := line63
  have I' : Inv X pins σ (upd H p (.lst (xs.set j v))) { s with heap := s.heap.update p (Obj.mapSeq (·.setIfInBounds j u)) } :=
    I.lstUpd hp ho (mapSeq_set its n j u) (r.set rv j) (by rw [List.length_set]; exact hz) s.toks
  by_cases h0 : 0 ≤ k
  · have hk : k.toNat = j := by
      rw [seqIndex_of h0 h4] at h1
      exact Option.some.inj h1
    exact PySem.W.ki_setAt ho h0 (by omega) (by rw [List.size_toArray, ← hl]; exact h4) (by rw [hk]; exact ⟨_, I', q⟩)
  · have hk : (k + (its.toArray.size : Int)).toNat = j := by
      rw [seqIndex_neg (by omega) h3] at h1
      rw [List.size_toArray, ← hl]
      exact Option.some.inj h1
    exact PySem.W.ki_setBack ho (by omega) (by rw [List.size_toArray, ← hl]; exact h3) (by omega) (by rw [hk]; exact ⟨_, I', q⟩)

theorem sl_bd (i : Int) (n : Nat) : max 0 (min (if i < 0 then i + (n : Int) else i) (n : Int)) = (((if i < 0 then (i + (n : Int)).toNat else min i.toNat n) : Nat) : Int) := by
  by_cases h : i < 0
  · rw [if_pos h, if_pos h, Int.min_eq_left (by omega)]
    omega
  · obtain ⟨k, rfl⟩ := Int.eq_ofNat_of_zero_le (Int.not_lt.mp h)
    rw [if_neg h, if_neg h, Int.toNat_natCast]
    omega
theorem slice_bounds (lo hi : Option Int) (n : Nat) : (sliceBounds lo hi none n).1 = ((HT.sIx n 0 lo : Nat) : Int) ∧ (sliceBounds lo hi none n).2.1 = ((HT.sIx n n hi : Nat) : Int) ∧ (sliceBounds lo hi none n).2.2 = 1 := by
  refine ⟨?_, ?_, rfl⟩
  · cases lo with
    | none => simp [sliceBounds, HT.sIx]
    | some i =>
      simp only [sliceBounds, HT.sIx, Option.getD_none, show (1 : Int) > 0 by decide, if_true]
      exact sl_bd i n
  · cases hi with
    | none => simp [sliceBounds, HT.sIx]
    | some i =>
      simp only [sliceBounds, HT.sIx, Option.getD_none, show (1 : Int) > 0 by decide, if_true]
      exact sl_bd i n
theorem slicePick_cut (its : List Value) (lo hi : Option Int) : slicePick its.toArray lo hi none = ((its.drop (HT.sIx its.length 0 lo)).take (HT.sIx its.length its.length hi - HT.sIx its.length 0 lo)).toArray := by
  obtain ⟨h1, h2, h3⟩ := slice_bounds lo hi its.toArray.size
  unfold slicePick
  rw [h1, h2, h3]
  simp only [sliceRange_one, pick_run, List.size_toArray] <;> rfl
noncomputable def rSlL (K : PySem.W.Frag) : V → Option Int → Option Int → Hp → VK → Prop := fun x lo hi H Q => ∃ a xs, x = .ref a ∧ SqL K H a xs ∧ ∀ p, H p = none → Q (.ref p) (upd H p (.lst (cutV xs lo hi)))
theorem sl_list : SlR X (rSlL X.K) := by
  intro pins s σ H x v vl vu lo hi sl Q I rx hs pl pu h
  obtain ⟨a, xs, rfl, hx, q⟩ := h
  cases rx
  obtain ⟨its, r, ht, hz⟩ := I.list hx
  have hlen := r.length
  refine ⟨"list", _, slot_list_getitem.lookup, ht.isList.typeIs, ?_⟩
  refine wpAny_getItem_list_slice ht.isList hs pl pu .none (by simp) ?_ (by rw [List.size_toArray] <;> omega)
  rw [slicePick_cut, ← hlen]
  refine ⟨.ref s.heap.objs.size, _, I.laid (t' := s.toks) (o := .lst (cutV xs lo hi)) (fun b ob q => Heap.get?_push_of_some _ q) (Nat.le_refl _) ?_, rfl, q _ (I.hok.fresh (Nat.le_refl _))⟩
  exact ⟨Nat.le_trans (cutV_length xs lo hi) hz, _, 0, (r.drop (HT.sIx xs.length 0 lo)).take (HT.sIx xs.length xs.length hi - HT.sIx xs.length 0 lo), Heap.get?_push_size _ rfl⟩

noncomputable def flatV : V → Bool
  | .non => true
  | .bl _ => true
  | .int _ => true
  | .str _ => true
  | _ => false
noncomputable def eqV : V → V → Bool
  | .non, .non => true
  | .bl a, .bl b => a == b
  | .bl a, .int b => (if a then 1 else 0) == b
  | .int a, .bl b => a == (if b then 1 else 0)
  | .int a, .int b => a == b
  | .str a, .str b => a == b
  | _, _ => false
theorem eqAt_V {A : Around} {s : Shared} {y x : V} {u v : Value} (ry : RelV y u) (rx : RelV x v) (fy : flatV y = true) (fx : flatV x = true) : SeqAt.EqAt A s u v (eqV y x) := by
  cases y with
  | non =>
    cases ry
    cases x with
    | non => cases rx; exact SeqAt.EqAt.same _
    | bl b => cases rx; exact SeqAt.EqAt.none_bool b
    | int b => obtain ⟨t, rfl⟩ := rx; exact SeqAt.EqAt.none_int b t
    | str b => obtain ⟨t, rfl⟩ := rx; exact SeqAt.EqAt.none_str b t
    | _ => exact absurd (show false = true from fx) Bool.false_ne_true
  | bl a =>
    cases ry
    cases x with
    | non => cases rx; exact SeqAt.EqAt.bool_none a
    | bl b => cases rx; exact SeqAt.EqAt.bool_bool a b
    | int b => obtain ⟨t, rfl⟩ := rx; exact SeqAt.EqAt.bool_int a b t
    | str b => obtain ⟨t, rfl⟩ := rx; exact SeqAt.EqAt.bool_str a b t
    | _ => exact absurd (show false = true from fx) Bool.false_ne_true
  | int a =>
    obtain ⟨t', rfl⟩ := ry
    cases x with
    | non => cases rx; exact SeqAt.EqAt.int_none a t'
    | bl b => cases rx; exact SeqAt.EqAt.int_bool a t' b
    | int b => obtain ⟨t, rfl⟩ := rx; exact SeqAt.EqAt.int_int a t' b t
    | str b => obtain ⟨t, rfl⟩ := rx; exact SeqAt.EqAt.int_str a t' b t
    | _ => exact absurd (show false = true from fx) Bool.false_ne_true
  | str a =>
    obtain ⟨t', rfl⟩ := ry
    cases x with
    | non => cases rx; exact SeqAt.EqAt.str_none a t'
    | bl b => cases rx; exact SeqAt.EqAt.str_bool a t' b
    | int b => obtain ⟨t, rfl⟩ := rx; exact SeqAt.EqAt.str_int a t' b t
    | str b => obtain ⟨t, rfl⟩ := rx; exact SeqAt.EqAt.str_str a t' b t
    | _ => exact absurd (show false = true from fx) Bool.false_ne_true
  | _ => exact absurd (show false = true from fy) Bool.false_ne_true

theorem call_len_seq : CallR X (.builtin "len") (fun xs H Q => ∃ p ys, xs = [.ref p] ∧ (SqL X.K H p ys ∨ SqT X.K H p ys) ∧ Q (.int ys.length) H) := by
  intro pins s σ H xs us Q I r h
  obtain ⟨p, ys, rfl, hq, q⟩ := h
  obtain ⟨u, rfl, rx⟩ := vals1 r
  cases rx
  have hn := line63
  rcases hq with hq | hq
  · obtain ⟨its, r', pl, hz⟩ := I.list hq
    have hlen := r'.length
    exact Calls.call_len_list pl.isList (by simp only [List.size_toArray] <;> omega) ⟨.int ys.length, H, I.tok _, ⟨s.toks + 1, by rw [List.size_toArray, hlen]⟩, q⟩
  · obtain ⟨its, r', pl, hz⟩ := I.tuple hq
    have hlen := r'.length
    exact len_tuple pl (by simp only [List.size_toArray] <;> omega) ⟨.int ys.length, H, I.tok _, ⟨s.toks + 1, by rw [List.size_toArray, hlen]⟩, q⟩
theorem call_len_str : CallR X (.builtin "len") (fun xs H Q => ∃ z, xs = [.str z] ∧ z.length ≤ sizeLine ∧ Q (.int z.length) H) := by
  intro pins s σ H xs us Q I r h
  obtain ⟨z, rfl, hz, q⟩ := h
  obtain ⟨u, rfl, t, rfl⟩ := vals1 r
  have hn := line63
  exact len_str (by omega) ⟨.int z.length, H, I.tok _, ⟨_, rfl⟩, q⟩

noncomputable def tyV (K : PySem.W.Frag) (T : String) (x : V) (H : Hp) : Prop := match x with
  | .str _ => T = "str"
  | .int _ => T = "int"
  | .ref p => (T = "list" ∧ ∃ xs, SqL K H p xs) ∨ (T = "tuple" ∧ ∃ o, K.lookup p = some o ∧ o.cls = .type "tuple" ∧ o.dict = none) ∨
      (T = "dict" ∧ ((∃ kvs, H p = some (.dK kvs)) ∨ ∃ kvs, H p = some (.dT kvs))) ∨ (T = "set" ∧ ∃ S n, H p = some (.set S n))
  | _ => False
theorem tyV_is {pins : List (Addr × Obj)} {σ : St} {H : Hp} {s : Shared} {T : String} {x : V} {v : Value} (I : Inv X pins σ H s) (r : RelV x v) (ty : tyV X.K T x H) :
    s.TypeIs v T ∧ ∀ a, v = .ref a → ∃ ob, s.heap.get? a = some ob ∧ ob.dict = none := by
  cases x with
  | str z =>
    obtain ⟨t, rfl⟩ := r
    cases (show T = "str" from ty)
    exact ⟨typeIs_str s z t, fun _ e => nomatch e⟩
  | int i =>
    obtain ⟨t, rfl⟩ := r
    cases (show T = "int" from ty)
    exact ⟨typeIs_int s i t, fun _ e => nomatch e⟩
  | ref p =>
    cases r
    rcases ty with ⟨rfl, xs, hq⟩ | ⟨rfl, o, hk, hc, hd⟩ | ⟨rfl, hk⟩ | ⟨rfl, S, n, hk⟩
    · obtain ⟨its, _, pl, _⟩ := I.list hq
      refine ⟨pl.isList.typeIs, fun a e => ?_⟩
      cases e
      obtain ⟨o, n, e, c, hd, _⟩ := pl
      exact ⟨o, e, hd⟩
    · refine ⟨⟨o, I.kIn p o hk, hc⟩, fun a e => ?_⟩
      cases e
      exact ⟨o, I.kIn _ o hk, hd⟩
    · have z : ∃ o, s.heap.get? p = some o ∧ o.ExactDict := by
        rcases hk with ⟨kvs, hk⟩ | ⟨kvs, hk⟩
        · obtain ⟨_, _, _, _, o, _, _, e, ex, _⟩ := I.hok p _ hk
          exact ⟨o, e, ex⟩
        · obtain ⟨_, _, _, _, o, _, _, e, ex, _⟩ := I.hok p _ hk
          exact ⟨o, e, ex⟩
      obtain ⟨o, e, ex⟩ := z
      refine ⟨⟨o, e, ex.1⟩, fun a e2 => ?_⟩
      cases e2
      exact ⟨o, e, ex.2.1⟩
    · obtain ⟨o, _, _, _, e, ex, _⟩ := I.hok p _ hk
      refine ⟨⟨o, e, ex.1⟩, fun a e2 => ?_⟩
      cases e2
      exact ⟨o, e, ex.2.1⟩
  | _ => exact False.elim ty
noncomputable def tBM (K : PySem.W.Frag) (T : String) (r : V → List V → Hp → VK → Prop) (to : TE) (t : TA) : TE := fun σ H Q => to σ H fun x H1 => tyV K T x H1 ∧ t σ H1 fun xs H2 => r x xs H2 Q
variable {o e : Expr} {es : List Expr} {to : TE} {t : TA} {name : Str} {apos cpos : Pos} {T id : String} {r : V → List V → Hp → VK → Prop}
theorem pe_bm (pa : PlainAttrs T) (slot : Slot T name id) (hty : typeOf (.builtin id) = pure (.type "method_descriptor")) (hm : MtR X id r) (ho : PE X o to) (ha : PA X (e :: es) t)
    (hbase : attributeBase o name X.env (eval o X.env) = eval o X.env := by rfl)
    (hfew : ((backTo cpos (starEach (e :: es) X.env)).all (fun x => !x.1) && (backToKw cpos (keywordEach [] X.env)).all (fun x => x.1.isSome)
      && decide ((e :: es).length + ([] : List Keyword).length + (if ([] : List Keyword).isEmpty then 0 else 1) < 30)) = true := by rfl)
    (hline : (apos.endLine == cpos.line) = true := by rfl) (hs : starEach (e :: es) X.env = (false, eval e X.env) :: starEach es X.env := by rfl) (hplain : (backTo cpos (starEach es X.env)).any (·.1) = false := by rfl) :
    PE X (.Call (.Attribute o name apos) (e :: es) [] cpos) (tBM X.K T r to t) := by
  intro pins s σ H Q I h
  refine wpAny_Call_method_late hbase hfew hline rfl (thn (ho pins s σ H _ I h) fun v s1 ⟨x, H1, I1, r1, ty, q1⟩ => ?_)
  obtain ⟨h1, h2⟩ := tyV_is I1 r1 ty
  refine ⟨T, id, pa, slot, hty, h1, h2, ?_⟩
  have hA := ha cpos pins s1 σ H1 _ I1 q1
  rw [hs] at hA ⊢
  refine Calls.callWith_builtin (by show (false || (backTo cpos (starEach es X.env)).any (·.1)) = false; rw [hplain] <;> rfl) (Calls.evalArgs_plain ?_)
  exact thn hA fun us s2 ⟨vs, H2, I2, r2, q2⟩ => hm pins s2 σ H2 x vs v us Q I2 r1 r2 q2
end
end L2

namespace L2
open PySem PySem.Spec PyProof.Rows

noncomputable def MtM (X : Cx) (id : String) (r : V → List V → Hp → VK → Prop) : Prop :=
  ∀ (pins : List (Addr × Obj)) (s : Shared) (σ : St) (H : Hp) (x : V) (xs : List V) (v : Value) (us : List Value) (Q : VK), Inv X pins σ H s → RelV x v → Vals xs us → r x xs H Q →
    wpAny (model X.prog X.w) X.A (call (.builtin id) (v :: us)) (EP X pins σ Q) X.xe s

theorem Vals.one : ∀ {x : V} {us : List Value}, Vals [x] us → ∃ u, us = [u] ∧ RelV x u
  | _, _, .cons r .nil => ⟨_, rfl, r⟩
theorem Vals.eraseIdx : ∀ {xs : List V} {us : List Value} (i : Nat), Vals xs us → Vals (xs.eraseIdx i) (us.eraseIdx i)
  | _, _, _, .nil => .nil
  | _, _, 0, .cons _ t => t
  | _, _, i + 1, .cons r t => .cons r (Vals.eraseIdx i t)
theorem len_erase {α : Type} : ∀ (l : List α) (i : Nat), (l.eraseIdx i).length ≤ l.length
  | [], _ => Nat.le_refl _
  | _ :: _, 0 => Nat.le_succ _
  | _ :: r, i + 1 => Nat.succ_le_succ (len_erase r i)

section
variable {X : Cx} {pins : List (Addr × Obj)} {σ : St} {H : Hp} {s : Shared} {l b : Addr} {xs ys zs : List V}

theorem Inv.lset {its its' : List Value} {n : Nat} {f : Array Value → Array Value} {t' : Nat} (I : Inv X pins σ H s) (hH : H l = some (.lst xs))
    (e : s.heap.get? l = some { cls := .type "list", data := .seq its.toArray n }) (hf : f its.toArray = its'.toArray) (hv : Vals ys its') (hz : ys.length ≤ sizeLine) :
    Inv X pins σ (upd H l (.lst ys)) { s with heap := s.heap.update l (Obj.mapSeq f), toks := t' } := by
  have q := PySem.IsL.update e f
  rw [hf] at q
  refine I.write (x := l) (e := l) (by rw [hH]; exact trivial) (.inl rfl) (fun b' u hb hu => (Heap.get?_update_other s.heap (Obj.mapSeq f) (Ne.symm hb)).trans hu) ⟨_, q⟩ ?_
  exact ⟨hz, its', _, hv, q⟩
theorem Inv.lnew {its : List Value} {t' : Nat} (I : Inv X pins σ H s) (hv : Vals ys its) (hz : ys.length ≤ sizeLine) :
    Inv X pins σ (upd H s.heap.objs.size (.lst ys)) { s with heap := s.heap.push { cls := .type "list", data := .seq its.toArray }, toks := t' } :=
  I.laid (fun _ _ q => Heap.get?_push_of_some _ q) (Nat.le_refl _) ⟨hz, its, 0, hv, Heap.get?_push_size _ rfl⟩
theorem Inv.fresh (I : Inv X pins σ H s) : H s.heap.objs.size = none := I.hok.fresh (Nat.le_refl _)
theorem Inv.lstM (I : Inv X pins σ H s) (hH : H l = some (.lst xs)) : xs.length ≤ sizeLine ∧ ∃ (its : List Value) (n : Nat), Vals xs its ∧ xs.length = its.length ∧ s.heap.get? l = some { cls := .type "list", data := .seq its.toArray n } := by
  obtain ⟨z, its, n, r, e⟩ := I.hok l _ hH
  exact ⟨z, its, n, r, r.length, e⟩

end

section
variable {X : Cx}

noncomputable def rAppend : V → List V → Hp → VK → Prop := fun x vs H Q => ∃ l xs y, x = .ref l ∧ vs = [y] ∧ H l = some (.lst xs) ∧ xs.length < sizeLine ∧ Q .non (upd H l (.lst (xs ++ [y])))
theorem mt_append : MtM X "list.append" rAppend := by
  intro pins s σ H x vs v us Q I rx rv h
  obtain ⟨l, xs, y, rfl, rfl, hH, hz, q⟩ := h
  cases rx
  obtain ⟨u, rfl, ru⟩ := rv.one
  obtain ⟨z, its, n, r, hl, e⟩ := I.lstM hH
  refine call_meets F.slot_list_append ⟨_, e, rfl⟩ F.entry_list_append (F.args_list_append_2 _ _) (PySem.list_append l its.toArray n u (by rw [List.size_toArray]; omega)) ⟨e, ?_⟩
  refine ⟨.non, _, I.lset (its' := its ++ [u]) hH e (by simp) (r.append (.cons ru .nil)) ?_, rfl, q⟩
  rw [List.length_append, List.length_singleton]
  omega



noncomputable def rPopAt : V → List V → Hp → VK → Prop := fun x vs H Q => ∃ l xs i k y, x = .ref l ∧ vs = [.int i] ∧ H l = some (.lst xs) ∧ -(2 ^ 63) ≤ i ∧ i < 2 ^ 63 ∧ seqIndex? i xs.length = some k ∧ xs[k]? = some y ∧ Q y (upd H l (.lst (xs.eraseIdx k)))
theorem mt_popAt : MtM X "list.pop" rPopAt := by
  intro pins s σ H x vs v us Q I rx rv h
  obtain ⟨l, xs, i, k, y, rfl, rfl, hH, h1, h2, hk, hy, q⟩ := h
  cases rx
  obtain ⟨u, rfl, ru⟩ := rv.one
  obtain ⟨t, rfl⟩ := ru
  obtain ⟨z, its, n, r, hl, e⟩ := I.lstM hH
  obtain ⟨w, hw, rw'⟩ := r.get hy
  refine call_meets F.slot_list_pop ⟨_, e, rfl⟩ F.entry_list_pop (F.args_list_pop_2 _ _)
    (MeetsSeq.list_pop_at l its.toArray n i t k w (fitsIndex_both h1 h2) (by rw [List.size_toArray, ← hl]; exact hk) (by rw [← Array.getElem?_toList]; exact hw) (by rw [List.size_toArray]; omega)) ⟨e, ?_⟩
  refine ⟨y, _, I.lset (its' := its.eraseIdx k) hH e ?_ (r.eraseIdx k) ?_, rw', q⟩
  · show its.toArray.eraseIdxIfInBounds k = (its.eraseIdx k).toArray
    rw [List.eraseIdxIfInBounds_toArray]
  · have := len_erase xs k
    omega



noncomputable def rCat : R2 := fun x y H Q => ∃ l b xs zs, x = .ref l ∧ y = .ref b ∧ H l = some (.lst xs) ∧ H b = some (.lst zs) ∧ xs.length + zs.length ≤ sizeLine ∧ ∀ p, H p = none → Q (.ref p) (upd H p (.lst (xs ++ zs)))
theorem op_cat : OpR X (binaryOp .Add) rCat := by
  intro pins s σ H x y v u Q I rx ry h
  obtain ⟨l, b, xs, zs, rfl, rfl, hH, hB, hz, q⟩ := h
  cases rx
  cases ry
  obtain ⟨z, its, n, r, hl, e⟩ := I.lstM hH
  obtain ⟨z2, its2, n2, r2, hl2, e2⟩ := I.lstM hB
  refine PySem.P.add_list e e2 ?_ (by rw [List.size_toArray, List.size_toArray]; omega)
  have ea : its.toArray ++ its2.toArray = (its ++ its2).toArray := by simp
  rw [ea]
  exact ⟨.ref _, _, I.lnew (t' := s.toks) (r.append r2) (by rw [List.length_append]; omega), rfl, q _ I.fresh⟩

end

section
variable {prog : Program} {w : World} {A : Around} {E : Value → Shared → Prop} {s : Shared}
end

section
variable {X : Cx}
end
end L2

namespace L2
open PySem PySem.Spec PyProof.Rows

section
variable {κ : Type} [DecidableEq κ]
noncomputable def valV (kvs : List (κ × V)) (k : κ) : Option V := (kvs.find? fun kv => decide (kv.1 = k)).map (·.2)



theorem KV.any {kvs : List (κ × V)} {vs : List (κ × Value)} (r : KV kvs vs) (k : κ) : (kvs.any fun kv => decide (kv.1 = k)) = vs.any fun kv => decide (kv.1 = k) := by
  unfold KV at r
  induction r with
  | nil => rfl
  | cons h t ih => rw [List.any_cons, List.any_cons, ih, h.1]
theorem KV.length {kvs : List (κ × V)} {vs : List (κ × Value)} (r : KV kvs vs) : kvs.length = vs.length := Paired.length r
end



abbrev KT (H : Hp) : List (List Key × V) → List (List Key × Addr × Value) → Prop := Paired fun p q => p.1 = q.1 ∧ H q.2.1 = some (.tup (p.1.map kV)) ∧ RelV p.2 q.2.2
theorem KT.keeps {H H' : Hp} {kvs : List (List Key × V)} {xs : List (List Key × Addr × Value)} (r : KT H kvs xs) (ht : ∀ b ys, H b = some (.tup ys) → H' b = some (.tup ys)) : KT H' kvs xs :=
  Paired.mapP r fun _ _ z => ⟨z.1, ht _ _ z.2.1, z.2.2⟩

section
variable {P : Program} {w : World} {H : Hp} {h : Heap} {a : Addr}
end

noncomputable def DGet (H : Hp) (a : Addr) (y : V) (r : Option V) : Prop :=
  (∃ kvs k, Rd H a (.dK kvs) ∧ y = kV k ∧ r = valV kvs k) ∨ ∃ kvs k b, Rd H a (.dT kvs) ∧ y = .ref b ∧ H b = some (.tup (k.map kV)) ∧ r = valV kvs k


section
variable {X : Cx} {pins : List (Addr × Obj)} {σ : St} {H : Hp} {s : Shared} {a : Addr} {y v : V} {u r : Value} {o : Option V} {A : Around} {E : Value → Shared → Prop}

theorem Inv.big (I : Inv X pins σ H s) : sysModules < s.heap.objs.size := by
  have h : mainGlobals < s.heap.objs.size := (I.mod.glob.keeps I.bk).lt
  exact Nat.lt_trans (by decide) h

end

section
variable {X : Cx} {pins : List (Addr × Obj)} {σ : St} {H : Hp} {s : Shared} {a : Addr} {kvs : List (Key × V)} {k : Key} {u : Value} {A : Around} {E : Value → Shared → Prop}
end




noncomputable def tDGet (td ty : TE) : TE := fun σ H Q => td σ H fun x H1 => ty σ H1 fun y H2 => ∃ a v, x = .ref a ∧ DGet H2 a y (some v) ∧ Q v H2

section
variable {X : Cx} {o i e value : Expr} {pos pos' tpos : Pos} {td ty tv : TE}
end


theorem dk_empty {P : Program} {w : World} {H : Hp} (h : Heap) (hb : sysModules < h.objs.size) : ObjOk P w H (h.push { cls := .type "dict", data := .dict #[] }) h.objs.size (.dK []) :=
  ⟨Nat.zero_le _, beq_eq_false_iff_ne.mpr (Ne.symm (Nat.ne_of_lt hb)), [], .nil, Heap.DictOf.new h⟩
noncomputable def tDNewK : TE := fun _ H Q => ∀ p, H p = none → Q (.ref p) (upd H p (.dK []))
section
variable {X : Cx} {pos : Pos}
theorem pe_dnewK : PE X (.Dict [] [] pos) tDNewK := fun pins s σ H Q I h =>
  wpAny_Dict_empty ⟨.ref s.heap.objs.size, _, I.laid (a := s.heap.objs.size) (o := .dK []) (t' := s.toks) (fun _ _ q => Heap.get?_push_of_some _ q) (Nat.le_refl _) (dk_empty s.heap I.big), rfl, h _ (I.hok.fresh (Nat.le_refl _))⟩
end




structure M1 (X : Cx) (o : Expr) (m : Str) (apos : Pos) (e : Expr) (cpos : Pos) : Prop where
  base : attributeBase o m X.env (eval o X.env) = eval o X.env
  few : ((backTo cpos (starEach [e] X.env)).all (fun x => !x.1) && (backToKw cpos (keywordEach [] X.env)).all (fun x => x.1.isSome)
    && decide (([e] : List Expr).length + ([] : List Keyword).length + (if ([] : List Keyword).isEmpty then 0 else 1) < 30)) = true
  line : (apos.endLine == cpos.line) = true
  trees : backTo cpos (starEach [e] X.env) = [(false, eval e X.env)]
structure M2 (X : Cx) (o : Expr) (m : Str) (apos : Pos) (e f : Expr) (cpos : Pos) : Prop where
  base : attributeBase o m X.env (eval o X.env) = eval o X.env
  few : ((backTo cpos (starEach [e, f] X.env)).all (fun x => !x.1) && (backToKw cpos (keywordEach [] X.env)).all (fun x => x.1.isSome)
    && decide (([e, f] : List Expr).length + ([] : List Keyword).length + (if ([] : List Keyword).isEmpty then 0 else 1) < 30)) = true
  line : (apos.endLine == cpos.line) = true
  trees : backTo cpos (starEach [e, f] X.env) = [(false, eval e X.env), (false, eval f X.env)]


section
variable {X : Cx} {pins : List (Addr × Obj)} {σ : St} {H : Hp} {s : Shared} {a : Addr} {y d : V} {u r : Value} {o : Option V} {A : Around} {E : Value → Shared → Prop}
end

section
variable {X : Cx} {o e f : Expr} {apos cpos : Pos} {td ty tx : TE}
end

section
variable {X : Cx} {pins : List (Addr × Obj)} {σ : St} {H : Hp} {s : Shared} {a : Addr} {kvs : List (Key × V)} {A : Around} {E : Value → Shared → Prop}
end


section
variable {X : Cx} {pins : List (Addr × Obj)} {σ : St} {H : Hp} {s : Shared} {a : Addr} {y : V} {u : Value} {A : Around} {E : Value → Shared → Prop}
end
end L2

namespace Att
open PySem PySem.W PySem.Calls PyProof.Rows

theorem ints_of_wellAll {P : Params} {h : Heap} : ∀ (ns : List Int) (vs : List Value), WellAll P h vs (ns.map WData.int) → IntsAre vs ns := by
  intro ns
  induction ns with
  | nil =>
    intro vs w
    rw [List.map_nil] at w
    cases w
    exact .nil
  | cons n ns ih =>
    intro vs w
    rw [List.map_cons] at w
    cases w with
    | cons a b =>
      cases a
      exact .cons _ _ (ih _ b)

theorem script_of {l : OpenLaw} {n : Nat} (hn : l.most = some n) {P : Params} {h : Heap} {args : List WData} {vals : List Value}
    (hpre : l.row.toRowW.claim.pre args = true) (hwl : WellAll P h vals args) :
    ∃ a vs ns, vals = [Value.ref a] ∧ args = [WData.list (ns.map WData.int)] ∧ h.get? a = some { cls := .type "list", data := .seq vs.toArray } ∧ IntsAre vs ns ∧ ns.length ≤ n := by
  have hsh : WShape.hasAll [] args [.list .int] = true := (pre_splitW hpre).1
  have hc : l.pre.holds [] { args := args } = true := (pre_splitW hpre).2
  obtain ⟨d, r, rfl, h1, h2⟩ := hasAllW_cons hsh
  obtain rfl := hasAllW_nil h2
  obtain ⟨xs, rfl, h3⟩ := hasW_list h1
  obtain ⟨ns, rfl⟩ := items_int h3
  have hlen : ns.length ≤ n := by
    unfold OpenLaw.pre at hc
    have h4 : (WTm.not (.lt (.lit (.int (n : Int))) (.len (.arg 0)))).holds [] { args := [.list (ns.map .int)] } = true := by
      have h4 := (holds_andW hc).1
      rw [hn] at h4
      exact h4
    have h5 := condW_of h4 (w_not (w_lt w_lit (w_len_list (w_arg rfl))))
    rw [List.length_map] at h5
    refine Nat.le_of_not_lt fun q => ?_
    have q' : (n : Int) < ((ns.length : Nat) : Int) := by omega
    first
      | (rw [decide_eq_true q'] at h5; exact absurd h5 (by decide))
      | (simp at h5; omega)
  cases hwl with
  | cons w1 w2 =>
    cases w2
    cases w1 with
    | list ho hall => exact ⟨_, _, ns, rfl, rfl, ho, ints_of_wellAll ns _ hall, hlen⟩

theorem post_true (l : OpenLaw) (args : List WData) : l.row.toRowW.claim.post args (.bool true) args = true :=
  postW_of (r := l.row.toRowW) (X := (true == true))
    (show WShape.has [] (.bool true) .bool = true by first | rfl | decide | simp [WShape.has, WShape.arms, WShape.armsAll])
    (show (WTm.eq .res (.lit (.bool true))).value [] { args := args, res := some (.bool true), after := args } = some (.bool (true == true)) from w_eq_bool (w_res rfl) w_lit) rfl


theorem attach_call {l : OpenLaw} {n : Nat} {q : Program} {loose : List Str} {XP : (Str → Option Value) → Heap → Prop} {YP : World → Heap → Prop} {d : DefRec}
    (hn : l.most = some n) (hdf : d.params.defaults = [])
    (call : ∀ (w : World) (s₀ s₁ : Shared) (mg mb : Str → Option Value) (fa : Addr) (o : Obj) (pm cd doc : Value) (a : Addr) (vs : List Value) (ns : List Int),
      Ground q loose [] XP w s₀ mg mb s₁.heap → YP w s₁.heap →
      s₁.heap.get? fa = some o → o.data = .func (docDef d.name d.params d.body d.scope pm cd doc) → s₁.heap.CodeRec cd d.name → mg d.name = some (.ref fa) →
      s₁.heap.get? a = some { cls := .type "list", data := .seq vs.toArray } → IntsAre vs ns → ns.length ≤ n → s₁.gens = #[] →
      codeAny (model l.prog w) callerA (.call (.ref fa) ⟨[.ref a], []⟩) (fun r s' => r = .ok (.ret (.bool true)) ∧ OldK s₁.heap s'.heap ∧ s'.os = s₁.os ∧ AllBare s'.gens) s₁) :
    WalkO q loose XP YP l.row.toRowW d [] (fun f vs => PySem.call f vs) := by
  intro w s₀ s₁ mg mb G Y fa o pm cd doc dV kV ho hd hcd hD hmg hg args vals as hpre hlay hrd hwl hlo
  obtain rfl : dV = .none := Dflts.none hD hdf
  obtain rfl : kV = .none := Dflts.noKw hD
  obtain ⟨a, vs, ns, rfl, rfl, hobj, hints, hlen⟩ := script_of hn hpre hwl
  refine enter_call (codeAny_mono (call w s₀ s₁ mg mb fa o pm cd doc a vs ns G Y ho (fd_plain hd) hcd hmg hobj hints hlen hg) fun r s' hq => ?_)
  obtain ⟨rfl, h2, h3, h4⟩ := hq
  exact ⟨.inl ⟨.bool true, .bool true, [], rfl, fun _ => rfl, .bool true, post_true l _, fun _ => ⟨List.Pairwise.nil, fun _ hm => (nomatch hm)⟩⟩, h2, h3, h4⟩


section
variable {prog : Program} {w : World} {A : Around} {E : Value → Shared → Prop} {s : Shared} {K : Frag}






end
end Att

namespace L2
open PySem PySem.Spec PyProof.Rows

theorem vals_ints : ∀ {vs : List Value} {ns : List Int}, IntsAre vs ns → Vals (ns.map V.int) vs
  | _, _, .nil => .nil
  | _, _, .cons n t h => .cons ⟨t, rfl⟩ (vals_ints h)

noncomputable def Only (H : Hp) : Prop := ∀ b, H b = none ∨ ∃ o xs, H b = some (.frz o (.lst xs))

theorem law_call {P : Program} {w : World} {K : PySem.W.Frag} {mg mb : Str → Option Value} {CX : CXT} {k : Nat} {fa a : Addr} {fd : FuncData} {x : Str} {sp : Sp} {s₁ : Shared} {vs : List Value} {ns : List Int}
    (KX : K.In s₁.heap) (hns : s₁.heap.Ns mainGlobals mg) (hb : s₁.heap.Ns builtinsNs mb) (hbb : ∀ x : Str, x ≠ "__name__" → mb x = bootBuiltins x) (hlim : s₁.heap.NoLimit) (hg : s₁.gens = #[])
    (ha : s₁.heap.get? a = some { cls := .type "list", data := .seq vs.toArray }) (hi : IntsAre vs ns) (hl : ns.length ≤ sizeLine) (hr : Room k callerA)
    (F : ∀ base : Heap, K.In base → base.Ns mainGlobals mg → FnOk P w K mg base CX k fa fd [x] sp) (hbind : ∀ (s : Shared) (u : Value), BindsTo s fd ⟨[u], []⟩ [(x, u)])
    (hsp : ∀ H : Hp, Only H → SqL K H a (ns.map V.int) → sp [.ref a] H (fun v _ => v = .bl true) fun _ _ _ => False)
    (hCX : ∀ H e s', CX [] H s₁ (fun _ _ _ => False) e s' → False) :
    codeAny (model P w) callerA (.call (.ref fa) ⟨[.ref a], []⟩) (fun r s' => r = .ok (.ret (.bool true)) ∧ OldK s₁.heap s'.heap ∧ s'.os = s₁.os ∧ AllBare s'.gens) s₁ := by
  have rv := vals_ints hi
  have lenV := hi.length
  -- from an abstract heap in which nothing but the script may be tracked
  have core : ∀ H : Hp, Only H → SqL K H a (ns.map V.int) → HOk P w H s₁.heap → (∀ b, H b ≠ none → b = a) → (H a ≠ none → K.lookup a = none) →
      codeAny (model P w) callerA (.call (.ref fa) ⟨[.ref a], []⟩) (fun r s' => r = .ok (.ret (.bool true)) ∧ OldK s₁.heap s'.heap ∧ s'.os = s₁.os ∧ AllBare s'.gens) s₁ := by
    intro H hO hS hok hA hK
    have base_of : ∀ {b : Addr} {o : Obj}, s₁.heap.get? b = some o → H b = none → (hidT s₁.heap H).get? b = some o := fun e n => hidT_get e n
    have noA : ∀ {b : Addr} {o : Obj} {es : Array DictEntry} {ep : Nat}, s₁.heap.get? b = some o → o.data = .dict es ep → H b = none := fun {b o es ep} e d => by
      cases q : H b with
      | none => rfl
      | some u =>
        have e' : b = a := hA b (by rw [q]; simp)
        subst e'
        rw [ha] at e; cases e
        have d' : Data.seq vs.toArray _ = Data.dict es ep := d
        cases d'
    have nsK : ∀ {b : Addr} {m : Str → Option Value}, s₁.heap.Ns b m → (hidT s₁.heap H).Ns b m := fun {b m} ⟨o, es, ep, e, d, r⟩ => ⟨o, es, ep, base_of e (noA e d), d, r⟩
    have hKb : K.In (hidT s₁.heap H) := fun b o e => base_of (KX b o e) (by
      cases q : H b with
      | none => rfl
      | some u =>
        have e' : b = a := hA b (by rw [q]; simp)
        subst e'
        rw [hK (by rw [q]; simp)] at e; cases e)
    have hM : Mod K mg (hidT s₁.heap H) := ⟨hKb, nsK hns, ⟨mb, nsK hb, hbb⟩, let ⟨mc, h1, h2⟩ := hlim; ⟨mc, nsK h1, h2⟩⟩
    have e0 : Env0 P w K mg (hidT s₁.heap H) callerA [] s₁ H := ⟨rfl, hM, fun b o e => of_hidT e, Nat.le_of_eq (hidT_size _ _), trivial, fun b hb => absurd (show b ∈ ([] : List Addr) from hb) (by simp), hok, .of_eq hg⟩
    refine codeAny_mono ((F _ hKb (nsK hns)).run callerA [] s₁ H ⟨[.ref a], []⟩ [.ref a] [.ref a] _ _ hr e0 (hbind s₁ (.ref a)) (.cons rfl .nil) (hsp H hO hS)) fun r s' h => ?_
    cases r with
    | error e => exact (hCX H e s' h).elim
    | ok fl =>
      cases fl with
      | next => exact False.elim h
      | brk => exact False.elim h
      | cont => exact False.elim h
      | ret u =>
        obtain ⟨v, H', os, bare, un, hok', r', q⟩ := h
        have q' : v = .bl true := q
        subst q'
        obtain rfl : u = Value.bool true := r'
        refine ⟨rfl, OldK.of_keep fun b o e => ?_, os, bare⟩
        cases q : H b with
        | none => exact un.keep b o e q (by intro z; exact absurd (show b ∈ ([] : List Addr) from z) (by simp)) (by simp)
        | some u =>
          rcases hO b with z | ⟨ob, xs, z⟩
          · rw [q] at z; cases z
          · have z2 := un.frzs b ob _ z
            obtain ⟨e1, _⟩ := hok b _ z
            obtain ⟨e2, _⟩ := hok' b _ z2
            rw [e] at e1; cases e1
            exact e2
  cases hk : K.lookup a with
  | some o =>
    -- the script is one of the module's own objects
    have e := KX a o hk
    rw [ha] at e
    cases e
    refine core (fun _ => none) (fun _ => .inl rfl) (.inr ⟨_, vs.toArray, _, hk, rfl, rfl, rfl, by rw [List.size_toArray, lenV]; exact hl, by simpa using rv⟩) (fun b u z => by have z' : (none : Option HO) = some u := z; cases z') (fun b z => absurd rfl z) fun z => absurd rfl z
  | none =>
    refine core (fun b => if b = a then some (.frz { cls := .type "list", data := .seq vs.toArray } (.lst (ns.map V.int))) else none) (fun b => ?_) (.inl (.inr ⟨{ cls := .type "list", data := .seq vs.toArray }, if_pos rfl⟩)) (fun b u z => ?_) (fun b z => ?_) fun _ => hk
    · by_cases hb : b = a
      · exact .inr ⟨_, _, if_pos hb⟩
      · exact .inl (if_neg hb)
    · by_cases hb : b = a
      · have z' := (if_pos hb).symm.trans z
        cases z'
        subst hb
        exact ⟨ha, by rw [List.length_map]; exact hl, vs, _, rv, ha⟩
      · have z' := (if_neg hb).symm.trans z
        cases z'
    · by_cases hb : b = a
      · exact hb
      · exact absurd (if_neg hb) z
end L2

namespace L2
open PySem PySem.Spec PyProof.Rows


theorem walk_of {l : PySem.W.OpenLaw} {n k : Nat} {q : Program} {loose : List Str} {XP : (Str → Option Value) → Heap → Prop} {YP : World → Heap → Prop} {d : DefRec} {K : Params → PySem.W.Frag} {CX : World → CXT} {sp : World → Sp} {x : Str}
    (hn : l.most = some n) (hn2 : n ≤ sizeLine) (hdf : d.params.defaults = []) (hr : Room k callerA)
    (hY : ∀ (w : World) (h : Heap), YP w h → (K w.params).In h)
    (F : ∀ (w : World) (mg : Str → Option Value) (fa : Addr) (h : Heap), (K w.params).In h → h.Ns mainGlobals mg → mg d.name = some (.ref fa) →
      ∃ fd : FuncData, (∀ (s : Shared) (u : Value), BindsTo s fd ⟨[u], []⟩ [(x, u)]) ∧
        ∀ base : Heap, (K w.params).In base → base.Ns mainGlobals mg → FnOk l.prog w (K w.params) mg base (CX w) k fa fd [x] (sp w))
    (hsp : ∀ (w : World) (H : Hp) (a : Addr) (ns : List Int), ns.length ≤ n → Only H → SqL (K w.params) H a (ns.map V.int) → sp w [.ref a] H (fun v _ => v = .bl true) fun _ _ _ => False)
    (hCX : ∀ (w : World) (H : Hp) (s : Shared) (e : Value) (s' : Shared), CX w [] H s (fun _ _ _ => False) e s' → False) :
    PySem.W.WalkO q loose XP YP l.row.toRowW d [] (fun f vs => PySem.call f vs) := by
  refine Att.attach_call hn hdf fun w s₀ s₁ mg mb fa o pm cd doc a vs ns G Y ho hd hcd hmg hobj hints hlen hg => ?_
  have KX := hY w _ Y
  obtain ⟨fd, hb, hF⟩ := F w mg fa _ KX G.T.g hmg
  exact law_call KX G.T.g G.T.b G.T.builtins G.T.nolimit hg hobj hints (Nat.le_trans hlen hn2) hr hF hb (fun H hO hS => hsp w H a ns hlen hO hS) fun H e s' => hCX w H s₁ e s'
end L2

/- THE LAST THEOREM (shape; LID, My.* are yours):
   My.Adr: a structure of the addresses that your layer names (classes, functions); My.Txt K t: a structure (Prop) of the equations over K;
   My.txt_mk : {K} {implicit addresses ..} (e1 : nsIn K mainGlobals "law" = some (some (.ref f))) (e2 : K.lookup f = some ⟨oc, od, .func (fnOf "law" "law" params body scope dV kV doc pm an cdv ct), sl⟩) (e3 : codeIn K cdv "law" = true) .. : ∃ t, My.Txt K t

(the tactic k_is has no namespace: write k_is) -/

namespace L2
open PySem PySem.Spec PyProof.Rows

noncomputable def defArgs (s : Stmt) : Arguments := match s with
  | .FunctionDef _ a _ _ _ _ _ _ _ _ => a
  | _ => { posonlyargs := [], args := [], vararg := none, kwonlyargs := [], kw_defaults := [], kwarg := none, defaults := [] }
noncomputable def defBody (s : Stmt) : List Stmt := match s with
  | .FunctionDef _ _ b _ _ _ _ _ _ _ => b
  | _ => []
noncomputable def defScope (s : Stmt) : Scope := match s with
  | .FunctionDef _ _ _ _ _ _ sc _ _ _ => sc
  | _ => { kind := .function, names := [], isGenerator := false, isCoroutine := false }

abbrev CX0 : CXT := fun _ _ _ _ _ _ => False
abbrev E0 : XK := fun _ _ _ => False
theorem pass0 {X : Cx} : Passes CX0 X E0 := fun _ _ _ _ _ _ _ h => h.elim

structure Fun (K : PySem.W.Frag) (x qual : Str) (st : Stmt) (f : Addr) (fd : FuncData) : Prop where
  ex : ∃ (oc : Value) (od : Option Addr) (kV doc pm : Value) (an : Option Addr) (cdv ct : Value) (osl : Array (Option Value)),
    fd = PySem.W.fnOf x qual (defArgs st) (defBody st) (defScope st) .none kV doc pm an cdv ct ∧ K.lookup f = some ⟨oc, od, .func fd, osl⟩ ∧ PySem.W.codeIn K cdv qual = true
  kp : PySem.W.keepIn K (.ref f) = true
section
variable {P : Program} {w : World} {K : PySem.W.Frag} {mg : Str → Option Value} {base : Heap}
theorem Fun.ok {x qual : Str} {st : Stmt} {f : Addr} {fd : FuncData} {N ps : List Str} {k : Nat} {sp : Sp} (F : Fun K x qual st f fd) (S : FnScope N ps (defScope st)) (len : ∀ vs H Q E, sp vs H Q E → vs.length = ps.length)
    (hbody : ∀ (cdv : Value) (A : Around) (outer : List Env) (s : Shared) (H : Hp) (vs : List V) (Q : VK) (E : XK), Room k (A.deeper (envOfC qual (defScope st) s.heap.objs.size f cdv)) → sp vs H Q E →
      ∃ t, PSs (cxOf CX0 P w K mg base N qual (defScope st) f cdv A outer s H E).nox (defBody st) t ∧ t { nx := fun _ H' => Q .non H', rt := Q } (start N vs) H) : FnOk P w K mg base CX0 (k + 1) f fd ps sp := by
  obtain ⟨oc, od, kV, doc, pm, an, cdv, ct, osl, rfl, lk, hcd⟩ := F.ex
  refine fn_of lk hcd S len fun A outer s H vs Q E hr hsp => ?_
  obtain ⟨t, h, q⟩ := hbody cdv A outer s H vs Q E hr hsp
  exact ⟨t, h.nox, q⟩
theorem Fun.binds {x qual : Str} {st : Stmt} {f : Addr} {fd : FuncData} {ps : List Str} (F : Fun K x qual st f fd)
    (h : ∀ (kV doc pm : Value) (an : Option Addr) (cdv ct : Value) (us : List Value), us.length = ps.length → bindArgs (PySem.W.fnOf x qual (defArgs st) (defBody st) (defScope st) .none kV doc pm an cdv ct) ⟨us, []⟩ = pure (ps.zip us)) : Binds K fd ps [] := by
  obtain ⟨oc, od, kV, doc, pm, an, cdv, ct, osl, rfl, lk, hcd⟩ := F.ex
  exact .all (h kV doc pm an cdv ct)
theorem fun_mk {x qual : Str} {st : Stmt} {f : Addr} {oc : Value} {od an : Option Addr} {osl : Array (Option Value)} {kV doc pm cdv ct : Value} (l : K.lookup f = some ⟨oc, od, .func (PySem.W.fnOf x qual (defArgs st) (defBody st) (defScope st) .none kV doc pm an cdv ct), osl⟩)
    (c : PySem.W.codeIn K cdv qual = true) (k : PySem.W.keepIn K (.ref f) = true) : Fun K x qual st f (PySem.W.fnOf x qual (defArgs st) (defBody st) (defScope st) .none kV doc pm an cdv ct) := ⟨⟨oc, od, kV, doc, pm, an, cdv, ct, osl, rfl, l, c⟩, k⟩
end

section
variable {X : Cx}
theorem pv (i : Nat) {x : Str} {pos : Pos} (hN : X.N[i]? = some x := by rfl) (hv : Vis X.env.scope x := by first | exact Or.inl rfl | exact Or.inr (Or.inl rfl) | exact Or.inr (Or.inr rfl)) (hd : (x == ("__debug__" : Str)) = false := by decide)
    (hcd : (x == ("__classdict__" : Str)) = false := by decide) : PE X (.Name x pos) (tVar i) := pe_var hN hv hd hcd
end

theorem iteF {A B : Prop} (h : B) : if false = true then A else B := by
  rw [if_neg Bool.false_ne_true]
  exact h
theorem iteT {A B : Prop} (h : A) : if true = true then A else B := by
  rw [if_pos rfl]
  exact h
theorem ite2 {c A B : Prop} [Decidable c] (h1 : c → A) (h2 : ¬ c → B) : if c then A else B := by
  by_cases h : c
  · rw [if_pos h]
    exact h1 h
  · rw [if_neg h]
    exact h2 h

noncomputable def Same (H H' : Hp) : Prop := ∀ b o, H b = some o → H' b = some o
theorem Same.refl (H : Hp) : Same H H := fun _ _ h => h
theorem Same.trans {H H1 H2 : Hp} (a : Same H H1) (b : Same H1 H2) : Same H H2 := fun c o h => b c o (a c o h)
theorem Same.free {H H' : Hp} (e : Same H H') {l : Addr} (h : H' l = Option.none) : H l = Option.none := by
  cases q : H l with
  | none => rfl
  | some o =>
    rw [e l o q] at h
    cases h
theorem Same.seq {K : PySem.W.Frag} {H H' : Hp} {a : Addr} {xs : List V} (e : Same H H') (h : SqL K H a xs) : SqL K H' a xs := by
  rcases h with (h | ⟨o, h⟩) | h
  · exact .inl (.inl (e _ _ h))
  · exact .inl (.inr ⟨o, e _ _ h⟩)
  · exact .inr h

section
variable {κ : Type} [DecidableEq κ]
end
section
variable {X : Cx}
end
end L2
set_option Elab.async false
set_option linter.all false
set_option maxRecDepth 100000
set_option maxHeartbeats 4000000
namespace L2
open PySem PySem.Spec PyProof.Rows

noncomputable def wk : St → St → Prop
  | [], [] => True
  | none :: a, _ :: b => wk a b
  | some x :: a, y :: b => y = some x ∧ wk a b
  | _, _ => False
theorem wk_len : ∀ {a b : St}, wk a b → a.length = b.length
  | [], [], _ => rfl
  | [], _ :: _, h => h.elim
  | none :: _, [], h => h.elim
  | some _ :: _, [], h => h.elim
  | none :: a, _ :: b, h => congrArg (· + 1) (wk_len (a := a) (b := b) h)
  | some _ :: a, _ :: b, h => congrArg (· + 1) (wk_len (a := a) (b := b) h.2)
theorem wk_get : ∀ {a b : St}, wk a b → ∀ (i : Nat) (v : V), a[i]? = some (some v) → b[i]? = some (some v)
  | [], [], _, i, v, e => by simp at e
  | [], _ :: _, h, _, _, _ => h.elim
  | none :: _, [], h, _, _, _ => h.elim
  | some _ :: _, [], h, _, _, _ => h.elim
  | none :: a, y :: b, h, 0, v, e => by simp at e
  | none :: a, y :: b, h, i + 1, v, e => by
    have := wk_get (a := a) (b := b) h i v (by simpa using e)
    simpa using this
  | some x :: a, y :: b, h, 0, v, e => by
    have e' : x = v := by simpa using e
    subst e'
    rw [h.1]; rfl
  | some x :: a, y :: b, h, i + 1, v, e => by
    have := wk_get (a := a) (b := b) h.2 i v (by simpa using e)
    simpa using this

noncomputable def clsOf (env : Env) : List (Str × NameKind) → List (Str × Addr) → List (Str × Addr)
  | [], acc => acc
  | (n, k) :: r, acc => clsOf env r (if (k == .free) = true then (n, (env.cells.lookup n).getD 0) :: acc else acc)
theorem closure_go {env : Env} : ∀ (ns : List (Str × NameKind)) (acc : List (Str × Addr)), (∀ y ∈ ns, y.2 = .free → ∃ c, env.cells.lookup y.1 = some c) →
    (forIn ns acc (fun x r => match x with
      | (name, kind) => if (kind == NameKind.free) = true then (do let c ← cellOf env name; pure (ForInStep.yield ((name, c) :: r))) else pure (ForInStep.yield r)) : Sem (List (Str × Addr))) = pure (clsOf env ns acc)
  | [], acc, _ => rfl
  | (n, k) :: r, acc, h => by
    rw [List.forIn_cons]
    have ih := fun a => closure_go (env := env) r a fun y hy => h y (List.mem_cons_of_mem _ hy)
    by_cases hk : (k == NameKind.free) = true
    · obtain ⟨c, hc⟩ := h (n, k) List.mem_cons_self (by simpa using hk)
      have e1 : cellOf env n = pure c := by unfold cellOf; rw [hc]
      simp only [hk, if_true, e1, pure_bind]
      unfold clsOf
      simp only [hk, if_true, hc, Option.getD_some]
      exact ih _
    · simp only [hk, if_false, pure_bind]
      unfold clsOf
      simp only [hk, if_false]
      exact ih _
theorem closure_eq {scope : Scope} {env : Env} (h : ∀ y ∈ scope.names, y.2 = .free → ∃ c, env.cells.lookup y.1 = some c) : closureFor scope env = pure (clsOf env scope.names []) := by
  have e := closure_go scope.names [] h
  unfold closureFor
  first
    | (rw [show (forIn scope.names ([] : List (Str × Addr)) _ : Sem (List (Str × Addr))) = pure (clsOf env scope.names []) from e]; rfl)
    | (simp only [bind_pure]; exact e)
    | exact (congrArg (· >>= pure) e)
theorem clsOf_mem {env : Env} : ∀ (ns : List (Str × NameKind)) (acc : List (Str × Addr)) (n : Str) (a : Addr), (n, a) ∈ clsOf env ns acc → (n, a) ∈ acc ∨ (a = (env.cells.lookup n).getD 0 ∧ (n, NameKind.free) ∈ ns)
  | [], acc, n, a, h => .inl h
  | (m, k) :: r, acc, n, a, h => by
    unfold clsOf at h
    by_cases hk : (k == NameKind.free) = true
    · rw [if_pos hk] at h
      rcases clsOf_mem r _ n a h with q | ⟨q1, q2⟩
      · rcases List.mem_cons.mp q with q | q
        · cases q
          have hk' : k = .free := by simpa using hk
          subst hk'
          exact .inr ⟨rfl, List.mem_cons_self⟩
        · exact .inl q
      · exact .inr ⟨q1, List.mem_cons_of_mem _ q2⟩
    · rw [if_neg hk] at h
      rcases clsOf_mem r _ n a h with q | ⟨q1, q2⟩
      · exact .inl q
      · exact .inr ⟨q1, List.mem_cons_of_mem _ q2⟩
theorem clsOf_acc {env : Env} : ∀ (ns : List (Str × NameKind)) (acc : List (Str × Addr)) (p : Str × Addr), p ∈ acc → p ∈ clsOf env ns acc
  | [], _, _, h => h
  | (m, k) :: r, acc, p, h => by
    unfold clsOf
    refine clsOf_acc r _ p ?_
    split
    · exact List.mem_cons_of_mem _ h
    · exact h
theorem clsOf_free {env : Env} : ∀ (ns : List (Str × NameKind)) (acc : List (Str × Addr)) (n : Str), (n, NameKind.free) ∈ ns → (n, (env.cells.lookup n).getD 0) ∈ clsOf env ns acc
  | [], _, _, h => nomatch h
  | (m, k) :: r, acc, n, h => by
    unfold clsOf
    rcases List.mem_cons.mp h with q | q
    · cases q
      refine clsOf_acc r _ _ ?_
      rw [if_pos (by rfl)]
      exact List.mem_cons_self
    · exact clsOf_free r _ n q
theorem lookup_mem {α β : Type} [BEq α] [LawfulBEq α] : ∀ {l : List (α × β)} {x : α} {y : β}, l.lookup x = some y → (x, y) ∈ l
  | [], _, _, h => by simp at h
  | (a, b) :: r, x, y, h => by
    rw [List.lookup_cons] at h
    by_cases e : (x == a) = true
    · rw [e] at h
      have e' : x = a := by simpa using e
      have h' : b = y := by simpa using h
      subst e' h'
      exact List.mem_cons_self
    · have e2 : (x == a) = false := by simpa using e
      rw [e2] at h
      exact List.mem_cons_of_mem _ (lookup_mem (by simpa using h))
theorem lookup_of_mem {α β : Type} [BEq α] [LawfulBEq α] : ∀ {l : List (α × β)} {x : α} {y : β}, (x, y) ∈ l → ∃ z, l.lookup x = some z
  | [], _, _, h => nomatch h
  | (a, b) :: r, x, y, h => by
    rw [List.lookup_cons]
    by_cases e : (x == a) = true
    · rw [e]; exact ⟨b, rfl⟩
    · have e2 : (x == a) = false := by simpa using e
      rw [e2]
      rcases List.mem_cons.mp h with q | q
      · cases q; simp at e
      · exact lookup_of_mem q
theorem cls_look {env : Env} {ns : List (Str × NameKind)} {x : Str} {c : Addr} (h : (clsOf env ns []).lookup x = some c) (hall : ∀ y ∈ ns, y.2 = .free → ∃ c, env.cells.lookup y.1 = some c) : env.cells.lookup x = some c := by
  rcases clsOf_mem ns [] x c (lookup_mem h) with q | ⟨q1, q2⟩
  · nomatch q
  · obtain ⟨c', hc⟩ := hall _ q2 rfl
    have hc' : env.cells.lookup x = some c' := hc
    rw [hc'] at q1
    rw [hc', q1]; rfl
theorem cls_has {env : Env} {ns : List (Str × NameKind)} {x : Str} (h : (x, NameKind.free) ∈ ns) : ∃ c, (clsOf env ns []).lookup x = some c := lookup_of_mem (clsOf_free ns [] x h)

noncomputable def Cx.block (X : Cx) (N : List Str) (scope : Scope) (C : Addr) (s : Shared) (H : Hp) (fp : List Addr) : Cx :=
  { X with N := N, s₀ := s, H₀ := H, env := compEnvC scope (clsOf X.env scope.names []) C X.env, outer := X.stack, ex := fp, fn := fun _ => false, pn := [], xe := fun _ _ => False }
theorem relabel_kind {scope : Scope} {env : Env} {x : Str} {k : NameKind} (h : (relabel scope env).names.lookup x = some k) : ∃ k', scope.names.lookup x = some k' ∧ (k = k' ∨ (k' = .free ∧ k = .cell)) := by
  unfold relabel at h
  generalize scope.names = ns at h
  induction ns with
  | nil => simp at h
  | cons p r ih =>
    obtain ⟨n, k0⟩ := p
    rw [List.map_cons] at h
    by_cases e : (x == n) = true
    · refine ⟨k0, by rw [List.lookup_cons, e], ?_⟩
      by_cases c : (k0 == NameKind.free && env.scope.kind == .function && env.kindOf n == some .cell) = true
      · have h1 : some NameKind.cell = some k := by
          have h2 := h
          simp only [c, if_true] at h2
          rw [List.lookup_cons, e] at h2
          exact h2
        have h3 : k0 = .free := by
          simp only [Bool.and_eq_true, beq_iff_eq] at c
          exact c.1.1
        exact .inr ⟨h3, (Option.some.inj h1).symm⟩
      · have h1 : some k0 = some k := by
          have h2 := h
          simp only [c, Bool.false_eq_true, if_false] at h2
          rw [List.lookup_cons, e] at h2
          exact h2
        exact .inl (Option.some.inj h1).symm
    · have e2 : (x == n) = false := by simpa using e
      rw [List.lookup_cons, e2]
      refine ih ?_
      by_cases c : (k0 == NameKind.free && env.scope.kind == .function && env.kindOf n == some .cell) = true
      · have h2 := h
        simp only [c, if_true] at h2
        rw [List.lookup_cons, e2] at h2
        exact h2
      · have h2 := h
        simp only [c, Bool.false_eq_true, if_false] at h2
        rw [List.lookup_cons, e2] at h2
        exact h2
theorem relabel_free {scope : Scope} {env : Env} {x : Str} (h : scope.names.lookup x = some .free) : (relabel scope env).names.lookup x = some .cell ∨ (relabel scope env).names.lookup x = some .free := by
  unfold relabel
  show List.lookup x (scope.names.map _) = _ ∨ List.lookup x (scope.names.map _) = _
  generalize scope.names = ns at h
  induction ns with
  | nil => simp at h
  | cons p r ih =>
    obtain ⟨n, k0⟩ := p
    rw [List.map_cons]
    by_cases e : (x == n) = true
    · rw [List.lookup_cons, e] at h
      have h' : k0 = .free := by simpa using h
      subst h'
      by_cases c : (NameKind.free == NameKind.free && env.scope.kind == .function && env.kindOf n == some .cell) = true
      · left
        simp only [c, if_true]
        rw [List.lookup_cons, e]
      · right
        simp only [c, Bool.false_eq_true, if_false]
        rw [List.lookup_cons, e]
    · have e2 : (x == n) = false := by simpa using e
      rw [List.lookup_cons, e2] at h
      have h3 := ih h
      by_cases c : (k0 == NameKind.free && env.scope.kind == .function && env.kindOf n == some .cell) = true
      · simp only [c, if_true]
        rw [List.lookup_cons, e2]
        exact h3
      · simp only [c, Bool.false_eq_true, if_false]
        rw [List.lookup_cons, e2]
        exact h3

noncomputable def PIfs (X : Cx) (ifs : List Expr) (t : TT) : Prop :=
  ∀ (pins : List (Addr × Obj)) (s : Shared) (σ : St) (H : Hp) (Q : Bool → Hp → Prop), Inv X pins σ H s → t σ H Q →
    wpAny (model X.prog X.w) X.A (forIn ifs true fun c r => if r = true then do let ok ← isTrue c X.env (eval c X.env); pure (ForInStep.yield ok) else pure (ForInStep.yield r)) (TP X pins σ Q) X.xe s
noncomputable def tYes : TT := fun _ H Q => Q true H
theorem pifs_nil {X : Cx} : PIfs X [] tYes := fun _ _ _ H _ I h => wpAny_tests_nil ⟨H, I, h⟩

theorem compLoop_any {prog : Program} {w : World} {A : Around} {R : Result → Shared → Prop} {s : Shared} {elt target iter : Expr} {ifs : List Expr} {scope : Scope} {pos : Pos} {it acc : Value} {env : Env} (I : Nat → Shared → Prop)
    (turn : ∀ n s, I n s → wpAny (model prog w) A (pyNext it) (fun r s1 => match r with
      | none => R (.ok .next) s1
      | some v => wpAny (model prog w) A (letOwnedTupleGo target it v) (fun _ s2 => wpAny (model prog w) A (assign target env v) (fun _ s3 =>
          wpAny (model prog w) A (forIn ifs true fun c r => if r = true then do let ok ← isTrue c env (eval c env); pure (ForInStep.yield ok) else pure (ForInStep.yield r)) (fun ok s4 =>
            if ok = true then wpAny (model prog w) A (eval elt env) (fun x s5 =>
              wpAny (model prog w) A (call (.builtin "list.append") [acc, x]) (fun _ s6 => ∃ m, m < n ∧ I m s6) (fun _ _ => False) s5) (fun _ _ => False) s4
            else ∃ m, m < n ∧ I m s4) (fun _ _ => False) s3) (fun _ _ => False) s2) (fun _ _ => False) s1) (fun _ _ => False) s)
    (n : Nat) (h : I n s) : codeAny (model prog w) A (.compLoop (.ListComp elt [⟨target, iter, ifs, 0⟩] scope pos) 0 it acc env) R s := by
  refine codeAny_loop rfl I (fun n s hI => ?_) n h
  show wpAny _ A ((compTurn (.ListComp elt [⟨target, iter, ifs, 0⟩] scope pos) 0 it acc env).onRaise (fun x => do noteFrame x env; theTreesLotGoes x)) _ _ s
  refine wpAny_noted ?_
  rw [compTurn_list]
  have no : ∀ {E : Value → Shared → Prop}, ∀ e s', (fun (_ : Value) (_ : Shared) => False) e s' → E e s' := fun _ _ z => False.elim z
  refine wpAny_bind (wpAny_standAt (wpAny_bind (wpAny_mono (turn n s hI) (fun r s1 h1 => ?_) no)))
  cases r with
  | none => exact wpAny_pure h1
  | some v =>
    refine wpAny_bind (wpAny_mono h1 (fun _ s2 h2 => ?_) no)
    refine wpAny_bind (wpAny_mono h2 (fun _ s3 h3 => wpAny_bind (wpAny_mono h3 (fun ok s4 h4 => ?_) no)) no)
    cases ok with
    | false => exact wpAny_pure ⟨rfl, h4⟩
    | true =>
      exact wpAny_bind (wpAny_bind (wpAny_mono h4 (fun x s5 h5 => wpAny_bind (wpAny_mono h5 (fun _ s6 h6 => wpAny_pure (wpAny_pure ⟨rfl, h6⟩)) no)) no))

noncomputable def blockSt (tgs : List Str) (cap : List (Str × Nat)) (σ : St) : St := tgs.map (fun _ => none) ++ cap.map fun c => (σ[c.2]?).join
noncomputable def tComp (wi : TI) (g : TG) (tt : TT) (te : TE) (f : St → St) : TE := fun σ H Q => wi σ H fun J H1 => ∀ D, H1 D = none → ∃ W : Nat → Nat → Hp → List V → Prop, (∃ m, W 0 m (upd H1 D (.lst [])) []) ∧
  ∀ i m H ys, W i m H ys → H D = some (.lst ys) ∧ ((J.stop i H ∧ Q (.ref D) H) ∨ (J.go i H ∧ ∀ x H', J.yld i H x H' → g x (f σ) H' fun σ2 H2 => wk (f σ) σ2 ∧ tt σ2 H2 fun b H3 =>
    if b = true then te σ2 H3 fun v H4 => H4 D = some (.lst ys) ∧ ys.length < sizeLine ∧ ∃ m', m' < m ∧ W (i + 1) m' (upd H4 D (.lst (ys ++ [v]))) (ys ++ [v])
    else ∃ m', m' < m ∧ W (i + 1) m' H3 ys))

structure BlockOk (X : Cx) (scope : Scope) (tgs : List Str) (cap : List (Str × Nat)) : Prop where
  kind : scope.kind = .function
  nocell : (scope.names.all fun y => !(y.2 == NameKind.cell)) = true
  names : (scope.names.all fun y => !(y.2 == NameKind.local) || (scope.names.lookup y.1 == some .local)) = true
  free : (scope.names.all fun y => !(y.2 == NameKind.free) || (X.env.scope.names.lookup y.1 == some .cell) || (X.env.scope.names.lookup y.1 == some .free)) = true
  caps : (cap.all fun c => decide (X.N[c.2]? = some c.1) && (scope.names.lookup c.1 == some .free) && (decide (X.env.scope.names.lookup c.1 = some .cell) || decide (X.env.scope.names.lookup c.1 = some .free))) = true
  tgl : (tgs.all fun x => (scope.names.lookup x == some .local)) = true
section
variable {X : Cx} {scope : Scope} {tgs : List Str} {cap : List (Str × Nat)}
theorem BlockOk.cellAt (B : BlockOk X scope tgs cap) (ok : X.Ok) : ∀ y ∈ scope.names, y.2 = .free → ∃ c, X.env.cells.lookup y.1 = some c := fun y hy hk => by
  have q := List.all_eq_true.mp B.free y hy
  rw [hk] at q
  refine ok.has y.1 ?_
  simp only [beq_self_eq_true, Bool.not_true, Bool.false_or, Bool.or_eq_true, beq_iff_eq] at q
  exact q
theorem BlockOk.noc (B : BlockOk X scope tgs cap) : ∀ y ∈ scope.names, y.2 ≠ .cell := fun y hy hk => by
  have q := List.all_eq_true.mp B.nocell y hy
  rw [hk] at q
  simp at q
theorem BlockOk.locs (B : BlockOk X scope tgs cap) : ∀ y ∈ scope.names, y.2 = .local → scope.names.lookup y.1 = some .local := fun y hy hk => by
  have q := List.all_eq_true.mp B.names y hy
  rw [hk] at q
  simpa using q

theorem Inv.enter {pins : List (Addr × Obj)} {σ : St} {H : Hp} {s : Shared} {h1 : Heap} {tk : Nat} {fp : List Addr} (B : BlockOk X scope tgs cap) (I : Inv X pins σ H s) (hfp : ∀ b ∈ fp, FpOk X pins H b) (hlt : ∀ b ∈ fp, b < s.heap.objs.size)
    (hns : h1.Ns s.heap.objs.size (fun _ => none)) (old : ∀ b o, s.heap.get? b = some o → h1.get? b = some o) :
    Inv (X.block (tgs ++ cap.map (·.1)) scope s.heap.objs.size s H fp) [] (blockSt tgs cap σ) H { s with heap := h1, toks := tk } := by
  have cellsIn : ∀ x c, (clsOf X.env scope.names []).lookup x = some c → X.env.cells.lookup x = some c := fun x c e => cls_look e (B.cellAt I.ok)
  have kindIn : ∀ x, ((relabel scope X.env).names.lookup x = some .cell ∨ (relabel scope X.env).names.lookup x = some .free) → (x, NameKind.free) ∈ scope.names := fun x hx => by
    have go : ∀ k, (relabel scope X.env).names.lookup x = some k → (k = .cell ∨ k = .free) → (x, NameKind.free) ∈ scope.names := fun k hk hc => by
      obtain ⟨k', e1, e2⟩ := relabel_kind hk
      have m := lookup_mem e1
      rcases e2 with e2 | ⟨e2, _⟩
      · subst e2
        rcases hc with z | z
        · exact absurd z (B.noc _ m)
        · subst z; exact m
      · subst e2; exact m
    rcases hx with h | h
    · exact go _ h (.inl rfl)
    · exact go _ h (.inr rfl)
  have nocl : ∀ x c, X.env.cells.lookup x = some c → c ≠ s.heap.objs.size := fun x c e => by
    obtain ⟨v, q⟩ := I.cell x c e
    exact Nat.ne_of_lt q.lt
  refine ⟨⟨I.ok.mod, ?_, I.ok.glob, I.ok.blt, Nat.le_refl _, fun x y c e1 e2 => I.ok.inj x y c (cellsIn x c e1) (cellsIn y c e2), fun x hx => ?_, fun x c hf _ => absurd (show false = true from hf) Bool.false_ne_true, I.ok.hd, I.ok.frames, .inl rfl,
    fun b hb => ⟨Nat.ne_of_lt (hlt b hb), fun x c e => ?_⟩, I.bs, Nat.le_trans I.ok.bsz I.sz, fun b o e hb => ?_, fun b hb hf => ?_, I.stack, I.stkFree⟩,
    rfl, I.bare, Un.kept old, ⟨_, hns, fun i x v h2 h3 h4 => ?_⟩, fun x c e => ?_, ?_, fun x c e => I.freeC x c (cellsIn x c e), fun p hp => absurd (show p ∈ ([] : List (Addr × Obj)) from hp) (by simp), I.hok.kept old, ?_⟩
  · exact B.kind
  · exact cls_has (kindIn x hx)
  · exact (hfp b hb).2.2.2.2.1 x c (cellsIn x c e)
  · -- no object of the base is an iterator of ours
    rcases (hfp b hb).2.2.2.1 with z | z
    · exact I.ok.noex b o e z
    · have q := I.ok.bs b o e
      exact absurd (Nat.lt_of_lt_of_le (Heap.lt_size q.1) z) (Nat.lt_irrefl _)
  · have hf' : b ∈ frs X.stack := hf
    rcases List.mem_cons.mp (I.stkSub b hf') with z | z
    · exact (hfp b hb).2.1 z
    · exact (hfp b hb).2.2.1 z
  · -- a name that is known: one of the captured ones
    have hi : tgs.length ≤ i := by
      by_cases hl : i < tgs.length
      · exfalso
        unfold blockSt at h3
        rw [List.getElem?_append_left (by simpa using hl), List.getElem?_map] at h3
        cases e : tgs[i]? with
        | none => rw [e] at h3; cases h3
        | some z => rw [e] at h3; cases h3
      · omega
    unfold blockSt at h3
    rw [List.getElem?_append_right (by simpa using hi), List.length_map, List.getElem?_map] at h3
    have h2' : (tgs ++ cap.map (·.1))[i]? = some x := h2
    rw [List.getElem?_append_right hi, List.getElem?_map] at h2'
    cases e : cap[i - tgs.length]? with
    | none => rw [e] at h2'; cases h2'
    | some c =>
      rw [e] at h2' h3
      have hx : c.1 = x := by simpa using h2'
      have hv : (σ[c.2]?).join = some v := by simpa using h3
      have hm : c ∈ cap := List.mem_of_getElem? e
      have q := List.all_eq_true.mp B.caps c hm
      simp only [Bool.and_eq_true, decide_eq_true_eq, beq_iff_eq, Bool.or_eq_true] at q
      obtain ⟨⟨q1, q2⟩, q3⟩ := q
      have hσ : σ[c.2]? = some (some v) := by
        cases z : σ[c.2]? with
        | none => rw [z] at hv; cases hv
        | some o =>
          rw [z] at hv
          have : o = some v := by simpa using hv
          rw [this]
      obtain ⟨m, _, hl⟩ := I.loc
      obtain ⟨u, r, l⟩ := hl c.2 c.1 v q1 hσ (by
        rcases q3 with z | z
        · exact .inr (.inl z)
        · exact .inr (.inr z))
      subst hx
      refine ⟨u, r, .inr ⟨relabel_free q2, ?_⟩⟩
      have nl : ¬ X.env.kindOf c.1 = some .local := fun z => by
        rcases q3 with y | y
        · have : X.env.kindOf c.1 = some .cell := y
          rw [this] at z; cases z
        · have : X.env.kindOf c.1 = some .free := y
          rw [this] at z; cases z
      rcases l with ⟨l1, _⟩ | ⟨_, d, l2, l3⟩
      · exact absurd l1 nl
      · obtain ⟨d', e'⟩ := cls_has (env := X.env) (lookup_mem q2)
        have : d = d' := Option.some.inj (l2.symm.trans (cellsIn _ _ e'))
        subst this
        obtain ⟨oc, ho, hd⟩ := l3
        exact ⟨d, e', oc, old d oc ho, hd⟩
  · obtain ⟨v, oc, ho, hd⟩ := I.cell x c (cellsIn x c e)
    exact ⟨v, oc, old c oc ho, hd⟩
  · exact I.hok.fresh (Nat.le_refl _)
  · unfold blockSt
    show _ = (tgs ++ cap.map (·.1)).length
    simp

theorem Inv.leave {pins : List (Addr × Obj)} {σ σ' : St} {H H' : Hp} {s s' : Shared} {h2 : Heap} {fp : List Addr} {N : List Str} (I : Inv X pins σ H s) (hfp : ∀ b ∈ fp, FpOk X pins H b)
    (J : Inv (X.block N scope s.heap.objs.size s H fp) [] σ' H' s') (hs : Heap.SameBut s.heap.objs.size s'.heap h2) : Inv X pins σ H' { s' with heap := h2 } := by
  have u : Un (frs X.stack) fp H H' s.heap s'.heap := J.base
  have ne : ∀ b o, s.heap.get? b = some o → b ≠ s.heap.objs.size := fun b o e => Nat.ne_of_lt (Heap.lt_size e)
  have hf : H' s.heap.objs.size = none := J.free
  have k : ∀ b o, b ≠ s.heap.objs.size → s'.heap.get? b = some o → h2.get? b = some o := fun b o hb e => (hs.2 b hb).trans e
  have u2 : Un (frs X.stack) fp H H' s.heap h2 :=
    ⟨fun b o e n h1 h3 => k b o (ne b o e) (u.keep b o e n h1 h3), fun b o e n h1 h3 => let ⟨sl, q⟩ := u.slot b o e n h1 h3; ⟨sl, k b _ (ne b o e) q⟩, u.free, fun b o e h3 => let ⟨o', q⟩ := u.there b o e h3; ⟨o', k b o' (ne b o e) q⟩, u.tups, u.frzs, u.tbls⟩
  have hok : HOk X.prog X.w H' h2 := fun b ob e => (J.hok b ob e).stay (fun c v hc q => k c v (by
    rcases hc with z | z
    · subst z
      intro y
      rw [y, hf] at e; cases e
    · intro y
      rw [y, hf] at z; cases z) q) (fun _ q => q) fun _ _ q => q
  exact Inv.call' I (s' := { s' with heap := h2 }) J.os u2 hok J.bare fun b hb => by
    obtain ⟨f0, f1, f2, f3, f4, f5⟩ := hfp b hb
    exact ⟨f3, f1, f4, f5⟩

theorem pe_lc {elt tg iter : Expr} {ifs : List Expr} {pos : Pos} {wi : TI} {g : TG} {tt : TT} {te : TE} (hc : X.calm = true) (B : BlockOk X scope tgs cap) (hi : PI X tg iter wi)
    (hg : ∀ C s H fp, PG (X.block (tgs ++ cap.map (·.1)) scope C s H fp) tg g) (ht : ∀ C s H fp, PIfs (X.block (tgs ++ cap.map (·.1)) scope C s H fp) ifs tt) (he : ∀ C s H fp, PE (X.block (tgs ++ cap.map (·.1)) scope C s H fp) elt te)
    (hs : ∀ x, foldedSetIterable iter X.env x = pure x := by intro _; rfl) : PE X (.ListComp elt [⟨tg, iter, ifs, 0⟩] scope pos) (tComp wi g tt te (blockSt tgs cap)) := by
  intro pins s σ H Q I h
  rw [eval_ListComp]
  refine wpAny_comprehension_free (use := none) rfl hs (closure_eq (B.cellAt I.ok)) B.kind B.locs (thn (hi pins s σ H _ I h) fun v s1 h1 => thn h1 fun itv s2 h2 => ?_)
  obtain ⟨it, fp, tn, J, H2, e, I2, T, st2, f2, q⟩ := h2
  subst e
  have lt2 : ∀ b ∈ fp, b < s2.heap.objs.size := fun b hb => let ⟨o, e, _⟩ := T.obj _ _ st2 b hb; Heap.lt_size e
  have hD : H2 s2.heap.objs.size = none := I2.hok.fresh (Nat.le_refl _)
  obtain ⟨W, ⟨m0, w0⟩, turn⟩ := q s2.heap.objs.size hD
  refine wpAny_newObj_type ?_
  have I3 : Inv X pins σ (upd H2 s2.heap.objs.size (.lst [])) { s2 with heap := s2.heap.push { cls := .type "list", dict := none, data := .seq ([] : List Value).toArray } } := I2.lnew (t' := s2.toks) (ys := []) (its := []) .nil (Nat.zero_le _)
  have st3 : tn 0 (s2.heap.push { cls := .type "list", dict := none, data := .seq ([] : List Value).toArray }) := T.keep _ _ _ st2 fun b _ o e => Heap.get?_push_of_some _ e
  have nD : ∀ b ∈ fp, b ≠ s2.heap.objs.size := fun b hb => Nat.ne_of_lt (lt2 b hb)
  have f3 : ∀ b ∈ fp, FpOk X pins (upd H2 s2.heap.objs.size (.lst [])) b := fun b hb => ⟨by rw [upd_ne (nD b hb)]; exact (f2 b hb).1, (f2 b hb).2⟩
  generalize hs3 : ({ s2 with heap := s2.heap.push { cls := .type "list", dict := none, data := .seq ([] : List Value).toArray } } : Shared) = s3 at I3 st3 ⊢
  have st3' : tn 0 s3.heap := by rw [← hs3]; exact st3
  have lt3 : ∀ b ∈ fp, b < s3.heap.objs.size := fun b hb => let ⟨o, e, _⟩ := T.obj _ _ st3' b hb; Heap.lt_size e
  generalize hH3 : upd H2 s2.heap.objs.size (.lst []) = H3 at I3 f3 w0
  generalize s2.heap.objs.size = D at *
  refine wpAny_newFunctionEnv B.noc (by intro y hy; simp at hy) (fun h1 hns hsb => ?_) B.kind
  have old : ∀ b o, s3.heap.get? b = some o → h1.get? b = some o := fun b o e => hsb.extBut b o (Nat.ne_of_lt (Heap.lt_size e)) (Heap.get?_push_of_some _ e)
  have I4 := Inv.enter (tk := s3.toks + ([] : List (Str × Value)).length) (h1 := h1) B I3 f3 lt3 hns old
  have st4 : tn 0 h1 := T.keep _ _ _ st3' fun b _ o e => old b o e
  have fpB : ∀ {H' : Hp}, (∀ b ∈ fp, H' b = none) → ∀ b ∈ fp, FpOk (X.block (tgs ++ cap.map (·.1)) scope s3.heap.objs.size s3 H3 fp) [] H' b := fun {H'} hn b hb =>
    ⟨hn b hb, Nat.ne_of_lt (lt3 b hb), I4.ok.exfs b hb, .inl hb, fun x c e => (I4.ok.exf b hb).2 x c e, fun p hp => absurd (show p ∈ ([] : List (Addr × Obj)) from hp) (by simp)⟩
  have loop : codeAny (model X.prog X.w) X.A (.compLoop (.ListComp elt [⟨tg, iter, ifs, 0⟩] scope pos) 0 (.ref it) (.ref D) (compEnvC scope (clsOf X.env scope.names []) s3.heap.objs.size X.env))
      (compPost (model X.prog X.w) X.A X.xe none (EP X pins σ Q) (.ref D) s3.heap.objs.size) { s3 with heap := h1, toks := s3.toks + ([] : List (Str × Value)).length } := by
    refine compLoop_any (fun n s' => ∃ i H' ys, Inv (X.block (tgs ++ cap.map (·.1)) scope s3.heap.objs.size s3 H3 fp) [] (blockSt tgs cap σ) H' s' ∧ tn i s'.heap ∧ (∀ b ∈ fp, H' b = none) ∧ W i n H' ys) ?_ m0 ⟨0, H3, [], I4, st4, fun b hb => (f3 b hb).1, w0⟩
    rintro n s5 ⟨i, H5, ys, I5, st5, fr5, w5⟩
    obtain ⟨hl, ht5⟩ := turn i n H5 ys w5
    rcases ht5 with ⟨stop, qd⟩ | ⟨go, step⟩
    · refine thn (T.done (X.block (tgs ++ cap.map (·.1)) scope s3.heap.objs.size s3 H3 fp) rfl rfl rfl hc i [] s5 _ H5 _ I5 (fpB fr5) st5 stop) fun r s6 ⟨hr, I6⟩ => ?_
      subst hr
      obtain ⟨m6, n6, _⟩ := I6.loc
      exact ⟨m6, n6, fun h' hs' => ⟨.ref D, H5, Inv.leave I3 f3 I6 hs', rfl, qd⟩⟩
    · refine thn (T.item (X.block (tgs ++ cap.map (·.1)) scope s3.heap.objs.size s3 H3 fp) rfl rfl rfl hc i [] s5 _ H5 _ I5 (fpB fr5) st5 go) fun r s6 ⟨u, hr, h6⟩ => ?_
      subst hr
      refine thn h6 fun _ s7 ⟨x, H7, I7, r7, y7, st7, fr7⟩ => ?_
      have I7' := I7.pinned (fpB fr7) (T.obj _ _ st7)
      have again : ∀ {σ8 : St} {H8 : Hp} {s8 : Shared} {ys8 : List V}, Inv (X.block (tgs ++ cap.map (·.1)) scope s3.heap.objs.size s3 H3 fp) ([] ++ pinsAt fp s7.heap) σ8 H8 s8 → wk (blockSt tgs cap σ) σ8 → (∃ m', m' < n ∧ W (i + 1) m' H8 ys8) →
          ∃ m, m < n ∧ ∃ i H' ys, Inv (X.block (tgs ++ cap.map (·.1)) scope s3.heap.objs.size s3 H3 fp) [] (blockSt tgs cap σ) H' s8 ∧ tn i s8.heap ∧ (∀ b ∈ fp, H' b = none) ∧ W i m H' ys := fun {σ8 H8 s8 ys8} I8 k8 ⟨m', hm, w8⟩ => by
        refine ⟨m', hm, i + 1, H8, ys8, I8.unpinned.weak (wk_len k8) (wk_get k8), T.keep _ _ _ st7 fun b hb o e => (I8.pin (b, o) (List.mem_append_right _ (List.mem_append_right _ (mem_pinsAt hb e)))).1, fun b hb => ?_, w8⟩
        obtain ⟨o, e, d⟩ := T.obj _ _ st7 b hb
        exact (I8.pin (b, o) (List.mem_append_right _ (List.mem_append_right _ (mem_pinsAt hb e)))).2.1
      refine thn (hg _ _ _ _ _ s7 _ H7 x u _ I7' r7 (step x H7 y7)) fun _ s8 ⟨σ8, H8, I8, k8, q8⟩ => ?_
      refine thn (ht _ _ _ _ _ s8 σ8 H8 _ I8 q8) fun ok s9 ⟨H9, I9, q9⟩ => ?_
      cases ok with
      | false =>
        rw [if_neg Bool.false_ne_true] at q9 ⊢
        exact again I9 k8 q9
      | true =>
        rw [if_pos rfl] at q9 ⊢
        refine thn (he _ _ _ _ _ s9 σ8 H9 _ I9 q9) fun y sA ⟨yv, HA, IA, rA, hA, zA, qA⟩ => ?_
        exact thn (mt_append _ sA σ8 HA (.ref D) [yv] (.ref D) [y] (fun v H' => v = .non ∧ ∃ m', m' < n ∧ W (i + 1) m' H' (ys ++ [yv])) IA rfl (.cons rA .nil) ⟨D, ys, yv, rfl, rfl, hA, zA, rfl, qA⟩) fun _ sB ⟨_, HB, IB, _, _, qB⟩ => again IB k8 qB
  exact codeAny_compStart_list loop (T.self _ 0 _ _ _ st4 loop)
end
end L2
set_option Elab.async false
set_option linter.all false
set_option maxRecDepth 100000
set_option maxHeartbeats 4000000
namespace L2
open PySem PySem.Spec PyProof.Rows

noncomputable def Itf (n : Nat) (f : Nat → V) : It := ⟨fun i _ => i < n, fun i H x H' => H' = H ∧ x = f i, fun i _ => i = n⟩
theorem turn_walks {P : Program} {w : World} {K : PySem.W.Frag} {x : Str} {px : Pos} {it : Addr} {n : Nat} {f : Nat → V} {Pv : Nat → Value → Prop} {St : Nat → Heap → Prop}
    (W : ∀ A : Around, A.handled = none → Walks P w A it [it] [it] n Pv St) (hP : ∀ i v, Pv i v → RelV (f i) v) (hobj : ∀ i h, St i h → ∃ o, h.get? it = some o ∧ ∀ v, o.data ≠ .cell v)
    (hfr : ∀ i h h', St i h → (∀ o, h.get? it = some o → h'.get? it = some o) → St i h')
    (hself : ∀ (A : Around) (i : Nat) (s : Shared) (Q : Value → Shared → Prop) (E : Value → Shared → Prop), St i s.heap → Q (.ref it) s → wpAny (model P w) A (pyIter (.ref it)) Q E s) :
    Turn P w K (.Name x px) (Itf n f) [it] it St where
  mem := by simp
  obj := fun i h st b hb => by
    have e : b = it := by simpa using hb
    subst e
    exact hobj i h st
  keep := fun i h h' st k => hfr i h h' st fun o e => k it (by simp) o e
  item := by
    intro X hP' hw hK hc i pins s σ H E I hf st hg
    subst hP' hw hK
    obtain ⟨f0, f1, f2, f3, f4, f5⟩ := hf it (by simp)
    refine (W X.A (I.ok.hd hc)).item i s _ _ hg st fun v h' tk hv st' kk => ?_
    have I1 : Inv X pins σ H { s with heap := h', toks := tk } := I.turned (fun b o hb e => kk b o (by simpa using hb) e) f0 f1 f3 f4 f5
    refine ⟨v, rfl, wpAny_of_eq (a := ()) (by rfl) ⟨f i, H, I1, hP i v hv, ⟨rfl, rfl⟩, st', fun b hb => (hf b hb).1⟩⟩
  done := by
    intro X hP' hw hK hc i pins s σ H E I hf st hg
    subst hP' hw hK
    obtain ⟨f0, f1, f2, f3, f4, f5⟩ := hf it (by simp)
    have e : i = n := hg
    subst e
    exact (W X.A (I.ok.hd hc)).done s _ _ st fun h' tk kk => ⟨rfl, I.turned (fun b o hb e => kk b o (by simpa using hb) e) f0 f1 f3 f4 f5⟩
  self := fun A i s Q E st h => hself A i s Q E st h

noncomputable def signV (z : Str) (i : Nat) : V := .str ⟨#[z.cps.getD i 0]⟩
theorem signAt_rel {z : Str} {i : Nat} {v : Value} (h : SignAt z i v) : RelV (signV z i) v := by
  obtain ⟨c, u, h1, h2⟩ := h
  subst h2
  refine ⟨u, ?_⟩
  have : z.cps.getD i 0 = c := by rw [Array.getD_eq_getD_getElem?, h1]; rfl
  rw [this]
theorem turn_str {P : Program} {w : World} {K : PySem.W.Frag} {x : Str} {px : Pos} {it : Addr} {z : Str} {t : Tok} {ty : String} (hty : ty = "str_ascii_iterator" ∨ ty = "str_iterator") :
    Turn P w K (.Name x px) (Itf z.cps.size (signV z)) [it] it (fun i h => h.IsStrIter it ty z t i) := by
  rcases hty with e | e
  · subst e
    exact turn_walks (fun A hA => Walks.strAscii hA it z t) (fun i v h => signAt_rel h) (fun i h st => let ⟨o, e, _, d⟩ := st; ⟨o, e, fun v q => by rw [d] at q; cases q⟩)
      (fun i h h' st k => let ⟨o, e, r⟩ := st; ⟨o, k o e, r⟩) fun A i s Q E st q => wpAny_pyIter_striter_ascii st q
  · subst e
    exact turn_walks (fun A hA => Walks.strWide hA it z t) (fun i v h => signAt_rel h) (fun i h st => let ⟨o, e, _, d⟩ := st; ⟨o, e, fun v q => by rw [d] at q; cases q⟩)
      (fun i h h' st k => let ⟨o, e, r⟩ := st; ⟨o, k o e, r⟩) fun A i s Q E st q => wpAny_pyIter_striter_wide st q
section
variable {X : Cx} {x : Str} {px : Pos}
noncomputable def iStr (tl : TE) : TI := fun σ H R => tl σ H fun v H1 => ∃ z : Str, v = .str z ∧ R (Itf z.cps.size (signV z)) H1
theorem pi_str {l : Expr} {tl : TE} (hl : PE X l tl) : PI X (.Name x px) l (iStr tl) := by
  intro pins s σ H R I h
  refine thn (hl pins s σ H _ I h) fun v s1 ⟨y, H1, I1, r1, q1⟩ => ?_
  obtain ⟨z, e, q⟩ := q1
  subst e
  obtain ⟨t, e⟩ := r1
  subst e
  have fin : ∀ ty : String, (ty = "str_ascii_iterator" ∨ ty = "str_iterator") → PIE X pins σ (.Name x px) R (.ref s1.heap.objs.size) { s1 with heap := s1.heap.push { cls := .type ty, data := .fields #[.str z t, .int 0 0] } } := fun ty hty => by
    refine ⟨s1.heap.objs.size, [s1.heap.objs.size], _, _, H1, rfl, I1.kept (t' := s1.toks) fun b o e => Heap.get?_push_of_some _ e, turn_str (t := t) hty, ⟨_, Heap.get?_push_size _ rfl, rfl, rfl⟩, fun b hb => ?_, q⟩
    have e : b = s1.heap.objs.size := by simpa using hb
    subst e
    exact I1.fpOk (Nat.le_refl _) (I1.hok.fresh (Nat.le_refl _))
  cases ha : z.cps.all (· < 128) with
  | false => exact wpAny_pyIter_wide ha (fin _ (.inr rfl))
  | true => exact wpAny_pyIter_ascii ha (fin _ (.inl rfl))
end

section
variable {X : Cx}
noncomputable def rSlS : V → Option Int → Option Int → Hp → VK → Prop := fun x lo hi H Q => ∃ z : Str, x = .str z ∧ z.length ≤ sizeLine ∧ Q (.str (Txt.slice z lo hi)) H
theorem sl_str : SlR X rSlS := by
  intro pins s σ H x v vl vu lo hi sl Q I rx hs pl pu h
  obtain ⟨z, e, hz, q⟩ := h
  subst e
  obtain ⟨t, e⟩ := rx
  subst e
  refine ⟨"str", _, F.slot_str_getitem.lookup, typeIs_str _ _ _, ?_⟩
  have fin : ∀ (t' : Tok) (k : Nat), EP X pins σ Q (.str (Txt.slice z lo hi) t') { s with toks := k } := fun t' k => ⟨.str _, H, I.tok k, ⟨t', rfl⟩, q⟩
  cases pl with
  | none =>
    cases pu with
    | none => exact wpAny_getItem_str_slice (l := none) (u := none) (st := none) hs rfl (post_val_or_str ⟨Nat.le_trans (Txt.slice_le z _ _) hz, fin⟩)
    | int j uj => exact wpAny_getItem_str_slice (l := none) (u := some (j, uj)) (st := none) hs rfl (post_val_or_str ⟨Nat.le_trans (Txt.slice_le z _ _) hz, fin⟩)
  | int i ui =>
    cases pu with
    | none => exact wpAny_getItem_str_slice (l := some (i, ui)) (u := none) (st := none) hs rfl (post_val_or_str ⟨Nat.le_trans (Txt.slice_le z _ _) hz, fin⟩)
    | int j uj => exact wpAny_getItem_str_slice (l := some (i, ui)) (u := some (j, uj)) (st := none) hs rfl (post_val_or_str ⟨Nat.le_trans (Txt.slice_le z _ _) hz, fin⟩)

theorem strsAre_of : ∀ {ys : List Str} {us : List Value}, Vals (ys.map V.str) us → StrsAre us ys
  | [], _, r => by
    rw [List.map_nil] at r; cases r; exact .nil
  | y :: ys, _, r => by
    rw [List.map_cons] at r
    cases r with
    | cons r1 r2 =>
      obtain ⟨t, e⟩ := r1
      subst e
      exact .cons y t (strsAre_of r2)
noncomputable def rJoin (K : PySem.W.Frag) : V → List V → Hp → VK → Prop := fun x vs H Q => ∃ (z : Str) (l : Addr) (ys : List Str), x = .str z ∧ vs = [.ref l] ∧ SqL K H l (ys.map V.str) ∧ (ys.map (·.length)).sum + ys.length * z.length ≤ 16777216 ∧ Q (.str (Txt.join z ys)) H
theorem mt_join : MtR X "str.join" (rJoin X.K) := by
  intro pins s σ H x vs v us Q I rx rv h
  obtain ⟨z, l, ys, e1, e2, hl, hz, q⟩ := h
  subst e1 e2
  obtain ⟨t, e⟩ := rx
  subst e
  obtain ⟨u, e, ru⟩ := rv.one
  subst e
  cases ru
  obtain ⟨its, r, pl, _⟩ := I.list hl
  exact join_list pl.isList (by simpa using strsAre_of r) hz fun t' k => ⟨.str _, H, I.tok k, ⟨t', rfl⟩, q⟩
theorem glued_nil (ys : List Str) : (Txt.join Str.empty ys).cps.toList = (ys.map (·.cps.toList)).flatten := by
  unfold Txt.join
  rw [PySem.StrLaws.glued_eq_join]
  induction ys with
  | nil => rfl
  | cons y r ih =>
    cases r with
    | nil => simp [Str.join]
    | cons y2 r2 =>
      show (y ++ Str.empty ++ Str.join Str.empty (y2 :: r2)).cps.toList = _
      rw [List.map_cons, List.flatten_cons, ← ih]
      show (y.cps ++ Str.empty.cps ++ (Str.join Str.empty (y2 :: r2)).cps).toList = _
      simp [Str.empty]
end
end L2
set_option Elab.async false
set_option linter.all false
set_option maxRecDepth 100000
set_option maxHeartbeats 4000000
namespace L2
open PySem PySem.Spec PyProof.Rows
inductive EqD (K : PySem.W.Frag) (H : Hp) : Nat → V → V → Bool → Prop
  | flat {n : Nat} {x y : V} : flatV x = true → flatV y = true → EqD K H n x y (eqV x y)
  | same {n : Nat} {a : Addr} : EqD K H n (.ref a) (.ref a) true
  | lists {n : Nat} {a b : Addr} {xs ys : List V} {e : Nat → Bool} : SqL K H a xs → SqL K H b ys → xs.length = ys.length → (∀ (j : Nat) x y, xs[j]? = some x → ys[j]? = some y → EqD K H n x y (e j)) → a ≠ b →
      EqD K H (n + 1) (.ref a) (.ref b) ((List.range xs.length).all e)
  | tups {n : Nat} {a b : Addr} {xs ys : List V} {e : Nat → Bool} : SqT K H a xs → SqT K H b ys → (∀ (j : Nat) x y, xs[j]? = some x → ys[j]? = some y → EqD K H n x y (e j)) → a ≠ b →
      EqD K H (n + 1) (.ref a) (.ref b) ((List.range (min xs.length ys.length)).all e && xs.length == ys.length)
theorem EqD.at {X : Cx} {pins : List (Addr × Obj)} {σ : St} {H : Hp} {s : Shared} (I : Inv X pins σ H s) {n : Nat} {x y : V} {b : Bool} (h : EqD X.K H n x y b) :
    ∀ {A : Around} {u v : Value}, A.units + n < cLine → RelV x u → RelV y v → SeqAt.EqAt A s u v b := by
  induction h with
  | flat fx fy => intro A u v _ rx ry; exact eqAt_V rx ry fx fy
  | same =>
    intro A u v _ rx ry
    cases rx
    cases ry
    exact SeqAt.EqAt.same _
  | @lists n a c xs ys e ha hb hl hi hne ih =>
    intro A u v hu rx ry
    cases rx
    cases ry
    obtain ⟨its, r1, p1, _⟩ := I.list ha
    obtain ⟨its2, r2, p2, _⟩ := I.list hb
    have l1 := r1.length
    have l2 := r2.length
    refine SeqAt.EqAt.of_refs hne ?_
    have q := SeqAt.RcAt.lists (A := A) (e := e) p1.isList p2.isList (by rw [List.size_toArray, List.size_toArray]; omega) (by omega) fun j h1 h2 => by
      rw [List.size_toArray] at h1 h2
      have e1 : xs[j]? = some xs[j] := List.getElem?_eq_getElem (by omega)
      have e2 : ys[j]? = some ys[j] := List.getElem?_eq_getElem (by omega)
      obtain ⟨w1, g1, rr1⟩ := r1.get e1
      obtain ⟨w2, g2, rr2⟩ := r2.get e2
      have g1' : its.toArray[j] = w1 := by
        have := (List.getElem?_eq_some_iff.mp g1).2
        simpa using this
      have g2' : its2.toArray[j] = w2 := by
        have := (List.getElem?_eq_some_iff.mp g2).2
        simpa using this
      rw [g1', g2']
      exact ih j _ _ e1 e2 (by show A.units + 1 + n < cLine; omega) rr1 rr2
    rw [List.size_toArray, ← l1] at q
    exact q
  | @tups n a c xs ys e ha hb hi hne ih =>
    intro A u v hu rx ry
    cases rx
    cases ry
    obtain ⟨its, r1, p1, _⟩ := I.tuple ha
    obtain ⟨its2, r2, p2, _⟩ := I.tuple hb
    have l1 := r1.length
    have l2 := r2.length
    refine SeqAt.EqAt.of_refs hne ?_
    have q := SeqAt.RcAt.tuples (A := A) (e := e) (show s.heap.IsTuple a its.toArray from p1) (show s.heap.IsTuple c its2.toArray from p2) (by omega) fun j h1 h2 => by
      rw [List.size_toArray] at h1 h2
      have e1 : xs[j]? = some xs[j] := List.getElem?_eq_getElem (by omega)
      have e2 : ys[j]? = some ys[j] := List.getElem?_eq_getElem (by omega)
      obtain ⟨w1, g1, rr1⟩ := r1.get e1
      obtain ⟨w2, g2, rr2⟩ := r2.get e2
      have g1' : its.toArray[j] = w1 := by
        have := (List.getElem?_eq_some_iff.mp g1).2
        simpa using this
      have g2' : its2.toArray[j] = w2 := by
        have := (List.getElem?_eq_some_iff.mp g2).2
        simpa using this
      rw [g1', g2']
      exact ih j _ _ e1 e2 (by show A.units + 1 + n < cLine; omega) rr1 rr2
    rw [List.size_toArray, List.size_toArray, ← l1, ← l2] at q
    exact q
section
variable {X : Cx}
end
end L2
set_option Elab.async false
set_option linter.all false
set_option maxRecDepth 100000
set_option maxHeartbeats 4000000
namespace L2
open PySem PySem.Spec PyProof.Rows
section
variable {X : Cx}
theorem call_isinst : CallR X (.builtin "isinstance") (fun xs H Q => ∃ x T ty b, xs = [x, .ty T] ∧ TyOf X.K H x ty ∧ PySem.W.kitOne X.K ty (.type T) = some b ∧ Q (.bl b) H) := by
  intro pins s σ H xs us Q I r h
  obtain ⟨x, T, ty, b, e, t, k, q⟩ := h
  subst e
  obtain ⟨u1, u2, e, r1, r2⟩ := vals2 r
  subst e
  cases r2
  exact isinst_ok I r1 t k fun tk => ⟨.bl b, H, I.tok tk, rfl, q⟩
theorem kit_same {K : PySem.W.Frag} (T : String) : PySem.W.kitOne K (.type T) (.type T) = some true := by
  unfold PySem.W.kitOne
  rw [if_pos (by simp)]
theorem all_range (bs : List Bool) : (List.range bs.length).all (fun i => bs.getD i false) = bs.all id := by
  rw [Bool.eq_iff_iff]
  simp only [List.all_eq_true, List.mem_range]
  constructor
  · intro h x hx
    obtain ⟨i, hi, e⟩ := List.mem_iff_getElem.mp hx
    have q := h i hi
    rw [List.getD_eq_getElem?_getD, List.getElem?_eq_getElem hi, Option.getD_some, e] at q
    exact q
  · intro h i hi
    rw [List.getD_eq_getElem?_getD, List.getElem?_eq_getElem hi, Option.getD_some]
    exact h _ (List.getElem_mem hi)
theorem call_all (hc : X.calm = true) : CallR X (.builtin "all") (fun xs H Q => ∃ (l : Addr) (bs : List Bool), xs = [.ref l] ∧ SqL X.K H l (bs.map V.bl) ∧ Q (.bl (bs.all id)) H) := by
  intro pins s σ H xs us Q I r h
  obtain ⟨l, bs, e, hl, q⟩ := h
  subst e
  obtain ⟨u, e, ru⟩ := vals1 r
  subst e
  cases ru
  obtain ⟨its, rv, pl, hz⟩ := I.list hl
  have hlen := rv.length
  rw [List.length_map] at hlen
  have ne : l ≠ s.heap.objs.size := by
    obtain ⟨o, ho, _⟩ := pl.isList
    exact Nat.ne_of_lt (Heap.lt_size ho)
  refine call_all_walk (wpAny_pyIter_list pl.isList ?_)
  refine ⟨s.heap.objs.size, _, _, _, _, _, (fun i => bs.getD i false), rfl, Walks.list (show X.A.in1.handled = none from I.ok.hd hc) s.heap.objs.size l ne its.toArray, ⟨⟨_, Heap.get?_push_size _ rfl, rfl, rfl⟩, pl.isList.push _⟩, ?_, fun h' tk hk => ?_⟩
  · intro i v s' Q' E' hP hQ
    have hP' : its[i]? = some v := by simpa using hP
    have hi : i < bs.length := by
      have := (List.getElem?_eq_some_iff.mp hP').1
      omega
    have e1 : (bs.map V.bl)[i]? = some (.bl (bs.getD i false)) := by
      rw [List.getElem?_map, List.getElem?_eq_getElem hi, List.getD_eq_getElem?_getD, List.getElem?_eq_getElem hi]; rfl
    obtain ⟨u, hu, ru⟩ := rv.get e1
    rw [hP'] at hu
    cases hu
    cases ru
    exact wpAny_truthy_bool hQ
  · have hs : its.toArray.size = bs.length := by rw [List.size_toArray]; exact hlen.symm
    rw [hs, all_range]
    exact ⟨.bl _, H, I.kept fun b o e => hk b o (by
      have := Heap.lt_size e
      simp only [List.mem_singleton]
      exact Nat.ne_of_lt this) (Heap.get?_push_of_some _ e), rfl, q⟩
abbrev tabAt (K : PySem.W.Frag) (T : Addr) (D : List (Str × KTD.Dat)) : Prop := KTD.tabLook (KTD.datLooks fun a => K.lookup a) (fun a => K.lookup a) T D = true
theorem op_in_tab {T : Addr} {D : List (Str × KTD.Dat)} (hT : tabAt X.K T D) : OpR X (compareOp .In) (fun x y H Q => ∃ z, x = .str z ∧ y = .ref T ∧ Q (.bl (KTD.inKeys z D)) H) := by
  intro pins s σ H x y v u Q I rx ry h
  obtain ⟨z, e1, e2, q⟩ := h
  subst e1 e2
  obtain ⟨t, e⟩ := rx
  subst e
  cases ry
  exact KTD.in_text (h₀ := X.base) ⟨KTD.text_of_look (get := fun a => X.K.lookup a) (fun a o e => I.mod.kin a o e) hT, I.bk⟩ ⟨.bl _, H, I.tok _, rfl, q⟩
end
end L2
set_option Elab.async false
set_option linter.all false
set_option maxRecDepth 100000
set_option maxHeartbeats 4000000
namespace L2
open PySem PySem.Spec PyProof.Rows

section
variable {X : Cx} {elts : List Expr} {k : Nat} {tpos : Pos}
end
end L2
set_option Elab.async false
set_option linter.all false
set_option maxRecDepth 100000
set_option maxHeartbeats 4000000
namespace L2
open PySem PySem.Spec PyProof.Rows
structure Fn (P : Program) (w : World) (K : PySem.W.Frag) (mg : Str → Option Value) (base : Heap) (x : Str) (ps : List Str) (k : Nat) (sp : Sp) : Prop where
  ex : ∃ f fd, FnOk P w K mg base CX0 k f fd ps sp ∧ mg x = some (.ref f) ∧ PySem.W.keepIn K (.ref f) = true ∧ Binds K fd ps []
section
variable {X : Cx}
theorem pe_fn {x : Str} {ps : List Str} {k : Nat} {sp : Sp} {e : Expr} {es : List Expr} {t : TA} {p pos : Pos} (F : Fn X.prog X.w X.K X.mg X.base x ps k sp) (hr : Room k X.A) (hg : Gl X x) (ha : PA X (e :: es) t)
    (hdb : (x == ("__debug__" : Str)) = false := by decide) (he : starEach (e :: es) X.env = (false, eval e X.env) :: starEach es X.env := by rfl) (hpl : (backTo pos (starEach es X.env)).any (·.1) = false := by rfl) :
    PE X (.Call (.Name x p) (e :: es) [] pos) (tCall sp [] E0 t) := by
  obtain ⟨f, fd, G, hm, hk, hb⟩ := F.ex
  exact pe_call G hr hg hm hk hb .nil pass0 ha hdb he hpl
end
section
variable {σ : St} {H : Hp} {Q : VK} {K : PySem.W.Frag}
theorem i_var {i : Nat} {v : V} (h : σ[i]? = some (some v)) (q : Q v H) : tVar i σ H Q := ⟨v, h, q⟩
theorem i_c {v : V} (q : Q v H) : tC v σ H Q := q
theorem i_op {r : R2} {ta tb : TE} (q : ta σ H fun x H1 => tb σ H1 fun y H2 => r x y H2 Q) : tOp r ta tb σ H Q := q
theorem i_rI0 {g : Int → Int → V} {i j : Int} (q : Q (g i j) H) : rI0 g (.int i) (.int j) H Q := ⟨i, j, rfl, rfl, q⟩
theorem i_rI {C : Int → Int → Prop} {g : Int → Int → V} {i j : Int} (c : C i j) (q : Q (g i j) H) : rI C g (.int i) (.int j) H Q := ⟨i, j, rfl, rfl, c, q⟩
theorem i_eq {x y : V} (h : scal x y = true) (q : Q (.bl (decide (x = y))) H) : rEq x y H Q := ⟨h, q⟩
theorem i_ne {x y : V} (h : scal x y = true) (q : Q (.bl (!decide (x = y))) H) : rNe x y H Q := ⟨h, q⟩
theorem i_test {t : TE} {R : Bool → Hp → Prop} (q : t σ H fun x H' => ∃ k, x = .bl k ∧ R k H') : tTest t σ H R := q
theorem i_tB {t : TE} {R : Bool → Hp → Prop} (q : t σ H fun x H' => ∃ k, x = .bl k ∧ R k H') : tB t σ H R := q
theorem i_and {t u : TT} {R : Bool → Hp → Prop} (q : t σ H fun c H1 => if c = true then u σ H1 R else R false H1) : tAnd t u σ H R := q
theorem i_or {t u : TT} {R : Bool → Hp → Prop} (q : t σ H fun c H1 => if c = true then R true H1 else u σ H1 R) : tOr t u σ H R := q
theorem i_not {t : TT} {R : Bool → Hp → Prop} (q : t σ H fun c H1 => R (!c) H1) : tNot t σ H R := q
theorem i_andV {ta tb : TE} (q : ta σ H fun x H1 => ∃ c, x = .bl c ∧ if c = true then tb σ H1 Q else Q (.bl false) H1) : tAndV ta tb σ H Q := q
theorem i_orV {ta tb : TE} (q : ta σ H fun x H1 => ∃ c, x = .bl c ∧ if c = true then Q (.bl true) H1 else tb σ H1 Q) : tOrV ta tb σ H Q := q
theorem i_notV {ta : TE} (q : ta σ H fun x H1 => ∃ c, x = .bl c ∧ Q (.bl (!c)) H1) : tNotV ta σ H Q := q
theorem i_ifE {t : TT} {ta tb : TE} (q : t σ H fun c H1 => if c = true then ta σ H1 Q else tb σ H1 Q) : tIf t ta tb σ H Q := q
theorem i_nil {R : List V → Hp → Prop} (q : R [] H) : tNil σ H R := q
theorem i_cons {te : TE} {tr : TA} {R : List V → Hp → Prop} (q : te σ H fun x H1 => tr σ H1 fun xs H2 => R (x :: xs) H2) : tCons te tr σ H R := q
theorem i_call {sp : Sp} {E : XK} {t : TA} (q : t σ H fun vs H1 => sp vs H1 Q E) : tCall sp [] E t σ H Q := by
  show t σ H fun vs H1 => sp (vs ++ []) H1 Q E
  simpa only [List.append_nil] using q
theorem i_cb {r : List V → Hp → VK → Prop} {t : TA} (q : t σ H fun vs H1 => r vs H1 Q) : tCB r t σ H Q := q
theorem i_tup {t : TA} (q : t σ H fun xs H1 => xs.length ≤ sizeLine ∧ ∀ p, H1 p = none → Q (.ref p) (upd H1 p (.tup xs))) : tTup t σ H Q := q
theorem i_lst {t : TA} (q : t σ H fun xs H1 => xs.length ≤ sizeLine ∧ ∀ p, H1 p = none → Q (.ref p) (upd H1 p (.lst xs))) : tLst t σ H Q := q
theorem i_bm {T : String} {r : V → List V → Hp → VK → Prop} {to : TE} {t : TA} (q : to σ H fun x H1 => tyV K T x H1 ∧ t σ H1 fun xs H2 => r x xs H2 Q) : tBM K T r to t σ H Q := q
theorem i_sl {r : V → Option Int → Option Int → Hp → VK → Prop} {te : TE} {tl th : TO} (q : te σ H fun x H1 => tl σ H1 fun l H2 => th σ H2 fun u H3 => r x l u H3 Q) : tSl r te tl th σ H Q := q
theorem i_nopart {R : Option Int → Hp → Prop} (q : R none H) : tNoPart σ H R := q
theorem i_part {t : TE} {R : Option Int → Hp → Prop} (q : t σ H fun x H1 => ∃ i, x = .int i ∧ R (some i) H1) : tPart t σ H R := q
theorem i_ixL {p : Addr} {xs : List V} {i : Int} {v : V} (h : SqL K H p xs) (e : atI xs i = some v) (q : Q v H) : rIxL K (.ref p) (.int i) H Q := ⟨p, xs, i, v, rfl, rfl, h, e, q⟩
theorem i_ixT {p : Addr} {xs : List V} {i : Int} {v : V} (h : H p = some (.tup xs)) (e : atI xs i = some v) (q : Q v H) : rIxT K (.ref p) (.int i) H Q := ⟨p, xs, i, v, rfl, rfl, SqT.of h, e, q⟩
theorem i_ixS {z : Str} {i : Int} {c : Nat} (hz : z.length ≤ sizeLine) (e : atI z.cps.toList i = some c) (q : Q (.str ⟨#[c]⟩) H) : rIxS (.str z) (.int i) H Q := ⟨z, i, c, rfl, rfl, hz, e, q⟩
variable {D : Ends}
theorem s_seq {t u : TS} (q : t { D with nx := u D } σ H) : tSeq t u D σ H := q
theorem s_asg {te : TE} {g : TG} (q : te σ H fun x H1 => g x σ H1 D.nx) : tAsg te g D σ H := q
theorem s_name {i : Nat} {v : V} {R : St → Hp → Prop} (q : R (σ.set i (some v)) H) : gName i v σ H R := q
theorem s_drop {te : TE} (q : te σ H fun _ H1 => D.nx σ H1) : tDrop te D σ H := q
theorem s_ret {te : TE} (q : te σ H D.rt) : tRet te D σ H := q
theorem s_next (q : D.nx σ H) : tNext D σ H := q
theorem s_if {c : TT} {t u : TS} (q : c σ H fun b H1 => if b = true then t D σ H1 else u D σ H1) : tIfS c t u D σ H := q
theorem s_sub {to ti : TE} {t : TSet} {v : V} {R : St → Hp → Prop} (q : to σ H fun o H1 => ti σ H1 fun i H2 => t o i v H2 fun H3 => R σ H3) : gSub to ti t v σ H R := q
theorem s_setL {p : Addr} {xs : List V} {k : Int} {j : Nat} {v : V} {R : Hp → Prop} (h : H p = some (.lst xs)) (e : ixN xs.length k = some j) (q : R (upd H p (.lst (xs.set j v)))) : rSetL (.ref p) (.int k) v H R := ⟨p, xs, k, j, rfl, rfl, h, e, q⟩
theorem s_for {wi : TI} {g : TG} {tb : TS} (q : wi σ H fun J H1 => ∃ W : Nat → Nat → St → Hp → Prop, (∃ m, W 0 m σ H1) ∧ ∀ i m σ H, W i m σ H →
  (J.stop i H ∧ D.nx σ H) ∨ (J.go i H ∧ ∃ N : St → Hp → Prop, (∀ σ' H', N σ' H' → ∃ m', m' < m ∧ W (i + 1) m' σ' H') ∧ ∀ x H', J.yld i H x H' → g x σ H' fun σ2 H2 => tb { D with nx := N, ct := N, bk := D.nx } σ2 H2)) : tFor wi g tb D σ H := q
theorem s_rng1 {ta : TA} {R : It → Hp → Prop} (q : ta σ H fun vs H1 => ∃ j : Int, vs = [.int j] ∧ -(2 ^ 62) ≤ j ∧ j < 2 ^ 62 ∧ R (Itr 0 j.toNat) H1) : iRng1 ta σ H R := q
theorem s_list {tl : TE} {R : It → Hp → Prop} (q : tl σ H fun x H1 => ∃ a, x = .ref a ∧ (∃ xs, SqL K H1 a xs) ∧ R (Itl K a) H1) : iList K tl σ H R := q
theorem s_str {tl : TE} {R : It → Hp → Prop} (q : tl σ H fun v H1 => ∃ z : Str, v = .str z ∧ R (Itf z.cps.size (signV z)) H1) : iStr tl σ H R := q
theorem s_strI {z : Str} {R : It → Hp → Prop} (q : R (Itf z.cps.size (signV z)) H) : ∃ y : Str, V.str z = .str y ∧ R (Itf y.cps.size (signV y)) H := ⟨z, rfl, q⟩
theorem i_comp {wi : TI} {g : TG} {tt : TT} {te : TE} {f : St → St} (q : wi σ H fun J H1 => ∀ D, H1 D = none → ∃ W : Nat → Nat → Hp → List V → Prop, (∃ m, W 0 m (upd H1 D (.lst [])) []) ∧
  ∀ i m H ys, W i m H ys → H D = some (.lst ys) ∧ ((J.stop i H ∧ Q (.ref D) H) ∨ (J.go i H ∧ ∀ x H', J.yld i H x H' → g x (f σ) H' fun σ2 H2 => wk (f σ) σ2 ∧ tt σ2 H2 fun b H3 =>
    if b = true then te σ2 H3 fun v H4 => H4 D = some (.lst ys) ∧ ys.length < sizeLine ∧ ∃ m', m' < m ∧ W (i + 1) m' (upd H4 D (.lst (ys ++ [v]))) (ys ++ [v])
    else ∃ m', m' < m ∧ W (i + 1) m' H3 ys))) : tComp wi g tt te f σ H Q := q
end
noncomputable def NextC (Pv : Nat → Hp → List V → Prop) (n : Nat) (D : Addr) (i : Nat) (ys : List V) : VK := fun v H4 => H4 D = some (.lst ys) ∧ ys.length < sizeLine ∧ ∃ m', m' < n - i ∧ (m' = n - (i + 1) ∧ i + 1 ≤ n ∧ Pv (i + 1) (upd H4 D (.lst (ys ++ [v]))) (ys ++ [v]))
theorem NextC.mk {Pv : Nat → Hp → List V → Prop} {n : Nat} {D : Addr} {i : Nat} {ys : List V} {v : V} {H4 : Hp} (hd : H4 D = some (.lst ys)) (hi : i < n) (hl : ys.length < sizeLine) (p : Pv (i + 1) (upd H4 D (.lst (ys ++ [v]))) (ys ++ [v])) : NextC Pv n D i ys v H4 :=
  ⟨hd, hl, n - (i + 1), by omega, rfl, hi, p⟩
section
variable {K : PySem.W.Frag} {g : TG} {te : TE} {σ0 : St} {QD : Hp → Prop} {H1 : Hp} {D : Addr}
theorem comp_range {lo : Int} {n : Nat} (Pv : Nat → Hp → List V → Prop) (h0 : Pv 0 (upd H1 D (.lst [])) []) (hD : ∀ i H ys, Pv i H ys → H D = some (.lst ys))
    (hs : ∀ i H ys, i < n → Pv i H ys → g (.int (lo + i)) σ0 H fun σ2 H2 => wk σ0 σ2 ∧ tYes σ2 H2 fun b H3 => if b = true then te σ2 H3 (NextC Pv n D i ys) else ∃ m', m' < n - i ∧ (m' = n - (i + 1) ∧ i + 1 ≤ n ∧ Pv (i + 1) H3 ys)) (hd : ∀ H ys, Pv n H ys → QD H) :
    ∃ W : Nat → Nat → Hp → List V → Prop, (∃ m, W 0 m (upd H1 D (.lst [])) []) ∧ ∀ i m H ys, W i m H ys → H D = some (.lst ys) ∧ (((Itr lo n).stop i H ∧ QD H) ∨ ((Itr lo n).go i H ∧ ∀ x H', (Itr lo n).yld i H x H' → g x σ0 H' fun σ2 H2 => wk σ0 σ2 ∧ tYes σ2 H2 fun b H3 =>
      if b = true then te σ2 H3 fun v H4 => H4 D = some (.lst ys) ∧ ys.length < sizeLine ∧ ∃ m', m' < m ∧ W (i + 1) m' (upd H4 D (.lst (ys ++ [v]))) (ys ++ [v]) else ∃ m', m' < m ∧ W (i + 1) m' H3 ys)) := by
  refine ⟨fun i m H ys => m = n - i ∧ i ≤ n ∧ Pv i H ys, ⟨n, by simp, Nat.zero_le _, h0⟩, ?_⟩
  rintro i m H ys ⟨rfl, hi, p⟩
  refine ⟨hD i H ys p, ?_⟩
  by_cases hlt : i < n
  · refine .inr ⟨hlt, fun x H' y => ?_⟩
    obtain ⟨e, y⟩ := y
    subst e y
    exact hs i _ ys hlt p
  · have e : i = n := by omega
    subst e
    exact .inl ⟨Nat.le_refl _, hd H ys p⟩
theorem comp_itf {n : Nat} {f : Nat → V} (Pv : Nat → Hp → List V → Prop) (h0 : Pv 0 (upd H1 D (.lst [])) []) (hD : ∀ i H ys, Pv i H ys → H D = some (.lst ys))
    (hs : ∀ i H ys, i < n → Pv i H ys → g (f i) σ0 H fun σ2 H2 => wk σ0 σ2 ∧ tYes σ2 H2 fun b H3 => if b = true then te σ2 H3 (NextC Pv n D i ys) else ∃ m', m' < n - i ∧ (m' = n - (i + 1) ∧ i + 1 ≤ n ∧ Pv (i + 1) H3 ys)) (hd : ∀ H ys, Pv n H ys → QD H) :
    ∃ W : Nat → Nat → Hp → List V → Prop, (∃ m, W 0 m (upd H1 D (.lst [])) []) ∧ ∀ i m H ys, W i m H ys → H D = some (.lst ys) ∧ (((Itf n f).stop i H ∧ QD H) ∨ ((Itf n f).go i H ∧ ∀ x H', (Itf n f).yld i H x H' → g x σ0 H' fun σ2 H2 => wk σ0 σ2 ∧ tYes σ2 H2 fun b H3 =>
      if b = true then te σ2 H3 fun v H4 => H4 D = some (.lst ys) ∧ ys.length < sizeLine ∧ ∃ m', m' < m ∧ W (i + 1) m' (upd H4 D (.lst (ys ++ [v]))) (ys ++ [v]) else ∃ m', m' < m ∧ W (i + 1) m' H3 ys)) := by
  refine ⟨fun i m H ys => m = n - i ∧ i ≤ n ∧ Pv i H ys, ⟨n, by simp, Nat.zero_le _, h0⟩, ?_⟩
  rintro i m H ys ⟨rfl, hi, p⟩
  refine ⟨hD i H ys p, ?_⟩
  by_cases hlt : i < n
  · refine .inr ⟨hlt, fun x H' y => ?_⟩
    obtain ⟨e, y⟩ := y
    subst e y
    exact hs i _ ys hlt p
  · have e : i = n := by omega
    subst e
    exact .inl ⟨rfl, hd H ys p⟩
end
end L2
namespace L2
open PySem PySem.Spec PyProof.Rows
section
variable {H : Hp} {Q : VK} {K : PySem.W.Frag}
theorem i_slS {z : Str} {lo hi : Option Int} (h : z.length ≤ sizeLine) (q : Q (.str (Txt.slice z lo hi)) H) : rSlS (.str z) lo hi H Q := ⟨z, rfl, h, q⟩
theorem i_slL {a : Addr} {xs : List V} {lo hi : Option Int} (h : SqL K H a xs) (q : ∀ p, H p = none → Q (.ref p) (upd H p (.lst (cutV xs lo hi)))) : rSlL K (.ref a) lo hi H Q := ⟨a, xs, rfl, h, q⟩
theorem i_cat {l b : Addr} {xs zs : List V} (h1 : H l = some (.lst xs)) (h2 : H b = some (.lst zs)) (hz : xs.length + zs.length ≤ sizeLine) (q : ∀ p, H p = none → Q (.ref p) (upd H p (.lst (xs ++ zs)))) : rCat (.ref l) (.ref b) H Q := ⟨l, b, xs, zs, rfl, rfl, h1, h2, hz, q⟩
theorem i_app {l : Addr} {xs : List V} {y : V} (h : H l = some (.lst xs)) (hz : xs.length < sizeLine) (q : Q .non (upd H l (.lst (xs ++ [y])))) : rAppend (.ref l) [y] H Q := ⟨l, xs, y, rfl, rfl, h, hz, q⟩
theorem i_tyL {p : Addr} {xs : List V} (h : H p = some (.lst xs)) : tyV K "list" (.ref p) H := .inl ⟨rfl, xs, SqL.of h⟩
end
theorem fresh_same {H : Hp} {p : Addr} {o : HO} (hp : H p = none) : Same H (upd H p o) := fun b u e => by rw [upd_ne (ne_of_none e hp)]; exact e
end L2
set_option Elab.async false
set_option linter.all false
set_option maxRecDepth 100000
set_option maxHeartbeats 4000000
namespace LZ
open PySem
section
variable {prog : Program} {w : World} {A : Around} {E : Value → Shared → Prop} {s : Shared}
abbrev IsZ (h : Heap) (z TI TO : Addr) (f0 : Value) (f1 : Bool) : Prop :=
  h.get? z = some { cls := .type "zip", dict := none, data := .fields #[f0, .bool f1, .bool false, .ref TI, .ref TO], slots := #[] }
structure Apart5 (z TI TO i1 i2 l : Addr) : Prop where
  TIz : TI ≠ z
  TOz : TO ≠ z
  i1z : i1 ≠ z
  i2z : i2 ≠ z
  TITO : TI ≠ TO
  TIi1 : TI ≠ i1
  TIi2 : TI ≠ i2
  TOi1 : TO ≠ i1
  TOi2 : TO ≠ i2
  i12 : i1 ≠ i2
  lz : l ≠ z
  lTO : l ≠ TO
  li1 : l ≠ i1
  li2 : l ≠ i2


end
end LZ
set_option Elab.async false
set_option linter.all false
set_option maxRecDepth 100000
set_option maxHeartbeats 4000000
namespace LZ
open PySem
structure ApartD (z TI TO i1 i2 l d : Addr) : Prop extends Apart5 z TI TO i1 i2 l where
  dz : d ≠ z
  dTI : d ≠ TI
  dTO : d ≠ TO
  di1 : d ≠ i1
  di2 : d ≠ i2
  dl : d ≠ l
structure ZS (h : Heap) (z TI TO i1 i2 l d : Addr) (ty : String) (x : Str) (t : Tok) (xs : Array Value) (k : Nat) : Prop where
  zf : (IsZ h z TI TO .none false ∧ ∃ a b, IsPair h TO a b) ∨ ∃ (T : Addr) (f1 : Bool) (oT : Obj), IsZ h z TI TO (rawInt (T : Nat)) f1 ∧ h.get? T = some oT ∧ T ≠ z ∧ T ≠ i1 ∧ T ≠ i2 ∧ T ≠ d
  ti : IsPair h TI (.ref i1) (.ref i2)
  a1 : h.IsListIter i1 l k
  a2 : h.IsStrIter i2 ty x t k
  li : h.IsList l xs
section
variable {prog : Program} {w : World} {K : Type} [DecidableEq K] {knd : KeyKind prog w K} {A : Around} {R : Result → Shared → Prop}
theorem ZS.dict {h h' : Heap} {z TI TO i1 i2 l d : Addr} {ty : String} {x : Str} {t : Tok} {xs : Array Value} {k : Nat} (D : ApartD z TI TO i1 i2 l d) (Z : ZS h z TI TO i1 i2 l d ty x t xs k) (hs : Heap.SameBut d h h') : ZS h' z TI TO i1 i2 l d ty x t xs k := by
  refine ⟨?_, hs.extBut _ _ D.dTI.symm Z.ti, Z.a1.extBut hs.extBut D.di1.symm, Z.a2.extBut hs.extBut D.di2.symm, Z.li.extBut hs.extBut D.dl.symm⟩
  rcases Z.zf with ⟨hz, a, b, hTO⟩ | ⟨T, f1, oT, hz, hT, n1, n2, n3, n4⟩
  · exact .inl ⟨hs.extBut _ _ D.dz.symm hz, a, b, hs.extBut _ _ D.dTO.symm hTO⟩
  · exact .inr ⟨T, f1, oT, hs.extBut _ _ D.dz.symm hz, hs.extBut _ _ n4 hT, n1, n2, n3, n4⟩
end
end LZ
set_option Elab.async false
set_option linter.all false
set_option maxRecDepth 100000
set_option maxHeartbeats 4000000
namespace L2
open PySem PySem.Spec PyProof.Rows
section
variable {X : Cx} {a b : Expr} {ta : TA} {p1 p2 pos1 pos2 : Pos}
end
end L2
set_option Elab.async false
set_option linter.all false
set_option maxRecDepth 100000
set_option maxHeartbeats 4000000
namespace K2
open PySem L2
noncomputable def top (i : Nat) : Stmt := PySem.Challenge.pw_anydelay_k15_standings_that_are_none.main.body.getD i (.Pass ⟨0, 0, 0, 0⟩)
structure Txt (K : PySem.W.Frag) (mg : Str → Option Value) (TT : Addr) : Prop where
  n_len : mg "len" = none
  n_range : mg "range" = none
  n_max : mg "max" = none
  n_min : mg "min" = none
  n_int : mg "int" = none
  n_list : mg "list" = none
  n_str : mg "str" = none
  n_isinstance : mg "isinstance" = none
  n_all : mg "all" = none
  n_dict : mg "dict" = none
  n_zip : mg "zip" = none
  n_enumerate : mg "enumerate" = none
  n_abs : mg "abs" = none
  n_sorted : mg "sorted" = none
  n_tuple : mg "tuple" = none
  tURNED : mg "TURNED" = some (.ref TT)
  tab : tabAt K TT [("0", .flat (.str "1")), ("1", .flat (.str "0"))]
structure Dk where
  d : Addr
noncomputable def Dk.own (D : Dk) (b : Addr) : Prop := b = D.d
noncomputable def Dk.At (D : Dk) (H : Hp) : Prop := ∃ a b c : Int, H D.d = some (.lst [.int a, .int b, .int c])
structure Kp (D : Dk) (H H' : Hp) : Prop where
  old : ∀ b o, H b = some o → ¬ D.own b → H' b = some o
  dk : D.At H'
noncomputable def spDraw : Sp := fun vs H Q _ => ∃ (D : Dk) (m : Int), vs = [.ref D.d, .int m] ∧ D.At H ∧ 1 ≤ m ∧ m ≤ 100000 ∧ ∀ (r : Int) H', 0 ≤ r → r < m → Kp D H H' → Q (.int r) H'
theorem kp_mk {D : Dk} {H : Hp} {a b c : Int} : Kp D H (upd H D.d (.lst [.int a, .int b, .int c])) := ⟨fun b o e nb => by rw [upd_ne nb]; exact e, ⟨_, _, _, upd_same⟩⟩

inductive Rl where
  | w (n : Str)
noncomputable def KeepT (H H' : Hp) : Prop := ∀ b xs, H b = some (.tup xs) → H' b = some (.tup xs)
theorem Same.tups {H H' : Hp} (S : Same H H') : KeepT H H' := fun b xs e => S b _ e
theorem Dk.At.same {D : Dk} {H H' : Hp} (S : Same H H') (h : D.At H) : D.At H' := let ⟨a, b, c, e⟩ := h; ⟨a, b, c, S _ _ e⟩
theorem Kp.of {D : Dk} {H H' : Hp} (h : D.At H) (S : Same H H') : Kp D H H' := ⟨fun b o e _ => S b o e, h.same S⟩
theorem Kp.trans {D : Dk} {H H1 H2 : Hp} (a : Kp D H H1) (b : Kp D H1 H2) : Kp D H H2 := ⟨fun c o e n => b.old c o (a.old c o e n) n, b.dk⟩
theorem notOwn {D : Dk} {H : Hp} (DA : D.At H) {b : Addr} {o : HO} (h : H b = some o) (hi : ∀ xs, o = .lst xs → ∀ i : Int, V.int i ∉ xs) : ¬ D.own b := by
  obtain ⟨x, y, z, e⟩ := DA
  intro q
  cases q
  rw [e] at h
  exact hi _ (Option.some.inj h).symm x (by simp)
theorem Kp.tups {D : Dk} {H H' : Hp} (DA : D.At H) (k : Kp D H H') : KeepT H H' := fun b xs e => k.old b _ e (notOwn DA e (fun _ z => nomatch z))
theorem noint_strs (ns : List Str) : ∀ i : Int, V.int i ∉ ns.map V.str := fun i h => by
  obtain ⟨x, _, e⟩ := List.mem_map.mp h
  cases e
theorem Kp.strs {D : Dk} {H H' : Hp} (DA : D.At H) (k : Kp D H H') {l : Addr} {ns : List Str} (h : H l = some (.lst (ns.map V.str))) : H' l = some (.lst (ns.map V.str)) :=
  k.old l _ h (notOwn DA h (fun xs e => by cases e; exact noint_strs ns))
theorem noint_refs {xs : List V} (h : ∀ x ∈ xs, ∃ a, x = V.ref a) : ∀ i : Int, V.int i ∉ xs := fun i hi => by
  obtain ⟨a, e⟩ := h _ hi
  cases e
theorem Kp.refs {D : Dk} {H H' : Hp} (DA : D.At H) (k : Kp D H H') {l : Addr} {xs : List V} (h : H l = some (.lst xs)) (hr : ∀ x ∈ xs, ∃ a, x = V.ref a) : H' l = some (.lst xs) :=
  k.old l _ h (notOwn DA h (fun ys e => by cases e; exact noint_refs hr))
theorem Kp.fresh {D : Dk} {H H' : Hp} {L : Addr} {o : HO} (DA : D.At H) (hL : H L = none) (k : Kp D H H') : Kp D H (upd H' L o) := by
  obtain ⟨a0, b0, c0, e0⟩ := DA
  obtain ⟨a, b, c, e⟩ := k.dk
  exact ⟨fun b u e nb => by rw [upd_ne (ne_of_none e hL)]; exact k.old b u e nb, ⟨a, b, c, by rw [upd_ne (ne_of_none e0 hL)]; exact e⟩⟩
theorem Kp.new {D : Dk} {H H' : Hp} {p : Addr} {o : HO} (k : Kp D H H') (hp : H' p = none) : Kp D H (upd H' p o) := k.trans (Kp.of k.dk (fresh_same hp))
theorem Kp.free {D : Dk} {H H' : Hp} {l : Addr} (k : Kp D H H') (h : H' l = none) : H l = none := by
  cases e : H l with
  | none => rfl
  | some o =>
    exfalso
    by_cases c : D.own l
    · obtain ⟨a, b, z, q⟩ := k.dk
      cases c
      rw [q] at h
      cases h
    · rw [k.old l o e c] at h
      cases h
theorem notOwn_fresh {D : Dk} {H : Hp} {p : Addr} (DA : D.At H) (hp : H p = none) : ¬ D.own p := fun z => by
  obtain ⟨a, b, c, e⟩ := DA
  cases z
  rw [e] at hp
  cases hp
noncomputable def GAt (H : Hp) (v : V) (g : Str × Rl) : Prop := ∃ b, v = .ref b
structure NAt (H : Hp) (a li lg : Addr) (ins : List Str) (vs : List V) (gs : List (Str × Rl)) : Prop where
  ha : H a = some (.tup [.ref li, .ref lg])
  hi : H li = some (.lst (ins.map V.str))
  hg : H lg = some (.lst vs)
  gates : Paired (GAt H) vs gs
theorem gates_refs {H : Hp} : ∀ {vs : List V} {gs : List (Str × Rl)}, Paired (GAt H) vs gs → ∀ x ∈ vs, ∃ a, x = V.ref a
  | _, _, .nil => fun x hx => nomatch hx
  | _, _, .cons h t => fun x hx => by
    rcases List.mem_cons.mp hx with e | hx
    · obtain ⟨b, e'⟩ := h; exact ⟨b, e.trans e'⟩
    · exact gates_refs t x hx
theorem gates_any {H H' : Hp} : ∀ {vs : List V} {gs : List (Str × Rl)}, Paired (GAt H) vs gs → Paired (GAt H') vs gs
  | _, _, .nil => .nil
  | _, _, .cons h t => .cons h (gates_any t)
theorem NAt.same {H H' : Hp} {a li lg : Addr} {ins : List Str} {vs : List V} {gs : List (Str × Rl)} (S : Same H H') (h : NAt H a li lg ins vs gs) : NAt H' a li lg ins vs gs := ⟨S _ _ h.ha, S _ _ h.hi, S _ _ h.hg, gates_any h.gates⟩
theorem NAt.kp {D : Dk} {H H' : Hp} {a li lg : Addr} {ins : List Str} {vs : List V} {gs : List (Str × Rl)} (DA : D.At H) (k : Kp D H H') (h : NAt H a li lg ins vs gs) : NAt H' a li lg ins vs gs :=
  ⟨k.tups DA _ _ h.ha, k.strs DA h.hi, k.refs DA h.hg (gates_refs h.gates), gates_any h.gates⟩
noncomputable def wiresN (ins : List Str) (gs : List (Str × Rl)) : List Str := ins ++ gs.map (·.1)
structure NetOk (ins : List Str) (gs : List (Str × Rl)) : Prop where
  i4 : ins.length ≤ 20
  g1 : 1 ≤ gs.length
  g7 : gs.length ≤ 20
structure StOk (n : Nat) (z : Str) : Prop where
  len : z.cps.size = n
  signs : ∀ c ∈ z.cps.toList, c = 48 ∨ c = 49
theorem ifT {c : Bool} {A B : Prop} (hc : c = true) (h : A) : if c = true then A else B := by rw [if_pos hc]; exact h
theorem ifF {c : Bool} {A B : Prop} (hc : c = false) (h : B) : if c = true then A else B := by subst hc; exact iteF h
theorem same_upd {H H' : Hp} {D : Addr} {o : HO} (S : Same H H') (hD : H D = none) : Same H (upd H' D o) := fun b u e => by rw [upd_ne (ne_of_none e hD)]; exact S b u e
theorem i_yes {σ : St} {H : Hp} {R : Bool → Hp → Prop} (q : R true H) : tYes σ H R := q
theorem i_dget {td ty : TE} {σ : St} {H : Hp} {Q : VK} (q : td σ H fun x H1 => ty σ H1 fun y H2 => ∃ a v, x = .ref a ∧ DGet H2 a y (some v) ∧ Q v H2) : tDGet td ty σ H Q := q
theorem i_un {r : V → Hp → VK → Prop} {ta : TE} {σ : St} {H : Hp} {Q : VK} (q : ta σ H fun x H1 => r x H1 Q) : tUn r ta σ H Q := q
theorem i_rU {g : Int → V} {i : Int} {H : Hp} {Q : VK} (q : Q (g i) H) : rU g (.int i) H Q := ⟨i, rfl, q⟩
theorem upd_pair {H H' : Hp} {p : Addr} {o : HO} (h : H p = none) (e : upd H p o = H') : Same H H' ∧ H' p = some o := by
  subst e
  exact ⟨fresh_same h, upd_same⟩
theorem paired_len {α β : Type} {F : α → β → Prop} : ∀ {xs : List α} {ys : List β}, Paired F xs ys → xs.length = ys.length
  | _, _, .nil => rfl
  | _, _, .cons h t => by simp [paired_len t]
end K2
set_option Elab.async false
set_option linter.all false
set_option maxRecDepth 100000
set_option maxHeartbeats 4000000
namespace L2
open PySem PySem.Spec PyProof.Rows
section
variable {X : Cx}
end
end L2
set_option Elab.async false
set_option linter.all false
set_option maxRecDepth 100000
set_option maxHeartbeats 4000000
namespace L2
open PySem PySem.Spec PyProof.Rows
section
variable {X : Cx}
theorem pe_bmK {K : PySem.W.Frag} {o e : Expr} {es : List Expr} {to : TE} {t : TA} {name : Str} {apos cpos : Pos} {T id : String} {r : V → List V → Hp → VK → Prop} (hK : X.K = K) (pa : PlainAttrs T) (slot : Slot T name id) (hty : typeOf (.builtin id) = pure (.type "method_descriptor")) (hm : MtR X id r) (ho : PE X o to) (ha : PA X (e :: es) t)
    (hbase : attributeBase o name X.env (eval o X.env) = eval o X.env := by rfl)
    (hfew : ((backTo cpos (starEach (e :: es) X.env)).all (fun x => !x.1) && (backToKw cpos (keywordEach [] X.env)).all (fun x => x.1.isSome)
      && decide ((e :: es).length + ([] : List Keyword).length + (if ([] : List Keyword).isEmpty then 0 else 1) < 30)) = true := by rfl)
    (hline : (apos.endLine == cpos.line) = true := by rfl) (hs : starEach (e :: es) X.env = (false, eval e X.env) :: starEach es X.env := by rfl) (hplain : (backTo cpos (starEach es X.env)).any (·.1) = false := by rfl) :
    PE X (.Call (.Attribute o name apos) (e :: es) [] cpos) (tBM K T r to t) := by
  subst hK
  exact pe_bm pa slot hty hm ho ha hbase hfew hline hs hplain
end
end L2
set_option Elab.async false
set_option linter.all false
set_option maxRecDepth 100000
set_option maxHeartbeats 4000000
namespace XE
open PySem
open Sem (wp)
structure XN (fs : List Addr) (e T : Addr) (oe : Obj) (h h' : Heap) : Prop where
  keep : ∀ b o, b ≠ e → b ∉ fs → h.get? b = some o → h'.get? b = some o
  slot : ∀ b o, b ≠ e → h.get? b = some o → ∃ sl, h'.get? b = some { o with slots := sl }
  at_ : h'.get? e = some (oe.mapFields (·.setIfInBounds 1 (.ref T)))
  new : h.get? T = none
abbrev tbO (head : Value) (L : Addr) (pc : List Value) : Obj := { cls := .type "traceback", dict := none, data := .fields ([head, .ref L, .none, rawInt L, .none] ++ (if pc.isEmpty then List.replicate 6 Value.none else pc)).toArray }
section
variable {M : Model} {A : Around} {E : Value → Shared → Prop} {s : Shared}
theorem xentry {base : Heap} {env : Env} {outer : List Env} {L e : Addr} {oe : Obj} {vs : Array Value} {head : Value} {hadNext : Bool} {Q : Unit → Shared → Prop}
    (fr : A.frames = some (env :: outer)) (ff : s.heap.FunFrames base (env :: outer)) (fL : env.frame = some L)
    (ee : s.heap.get? e = some oe) (ed : oe.data = .fields vs) (sz : 1 < vs.size)
    (h : ∀ h' T oT ts, XN ((env :: outer).filterMap (·.frame)) e T oe s.heap h' → h'.get? T = some oT → oT.data = .fields ts → ts[3]? = some (rawInt L) → T ≠ e → Q () { s with heap := h' }) :
    wpAny M A (do let a ← frameOf env; let pc ← entryPlaceOf L hadNext; let b ← EntryCells.newEntry head a .none (rawInt L) .none pc; setField (.ref e) 1 b) Q E s := by
  have nef : e ∉ (env :: outer).filterMap (·.frame) := fun mm => by
    obtain ⟨_, o, eo, nf⟩ := ff.mem mm
    rw [ee] at eo; injection eo with eo; subst eo; exact nf vs ed
  refine wpAny_bind (wpAny_frameOf_fun fr ff fL fun g1 so => ?_)
  refine wpAny_bind (wpAny_entryPlaceOf fun pc pk => ?_)
  unfold EntryCells.newEntry newFields
  refine wpAny_bind (wpAny_newObj_type ?_ (pk.sizeOk5 _ _ _ _ _))
  have x1 : g1.get? e = some oe := (so.2.1 e nef).trans ee
  have x2 := Heap.get?_push_of_some (h := g1) (tbO head L pc) x1
  refine wpAny_setField x2 ed sz ?_
  have nTe : g1.objs.size ≠ e := Nat.ne_of_gt (Heap.lt_size x1)
  have x3 := Obj.data_mapFields ed (·.setIfInBounds 1 (Value.ref g1.objs.size))
  have x4 := Heap.get?_update_self (Obj.mapFields (·.setIfInBounds 1 (Value.ref g1.objs.size))) x2 (Obj.isFreed_of_fields x3)
  have x5 := (Heap.get?_update_other (g1.push (tbO head L pc))
    (Obj.mapFields (·.setIfInBounds 1 (Value.ref g1.objs.size))) (Ne.symm nTe)).trans (Heap.get?_push_size g1 rfl)
  have keep : ∀ b o, b ≠ e → g1.get? b = some o →
      ((g1.push (tbO head L pc)).update e (Obj.mapFields (·.setIfInBounds 1 (Value.ref g1.objs.size)))).get? b = some o :=
    fun b o nbe eb => by
      rw [Heap.get?_update_other _ _ (Ne.symm nbe)]
      exact Heap.get?_push_of_some _ eb
  refine h _ g1.objs.size _ _ ⟨fun b o nbe nbf eb => keep b o nbe ((so.2.1 b nbf).trans eb), fun b o nbe eb => ?_, x4, ?_⟩ x5 rfl ?_ nTe
  · obtain ⟨sl, ez⟩ := so.2.2 b o eb
    exact ⟨sl, keep b _ nbe ez⟩
  · exact Heap.get?_none_of_le (by first | exact Nat.le_of_eq so.1.symm | exact Nat.le_of_eq so.1 | (rw [so.1]; exact Nat.le_refl _))
  · first | (simp; done) | (rcases pk with rfl | ⟨_, _, _, _, _, _, _, rfl⟩ <;> simp)
theorem xflight {e T : Addr} {oe oT : Obj} {vs ts : Array Value} {f : Option Addr} {Q : Unit → Shared → Prop} (ee : s.heap.get? e = some oe) (ed : oe.data = .fields vs) (v1 : vs[1]? = some (.ref T))
    (eT : s.heap.get? T = some oT) (dT : oT.data = .fields ts) (v3 : 3 < ts.size)
    (h : Q () { s with heap := s.heap.update T (Obj.mapFields (·.setIfInBounds 3 (f.elim Value.none fun f => rawInt f))) }) : wpAny M A (setFlight (.ref e) f) Q E s := by
  unfold setFlight
  refine wpAny_bind (wpAny_field ee ed v1 ?_)
  rw [if_pos (show (Value.ref T != Value.none) = true from by simp)]
  exact wpAny_setField eT dT v3 h
structure Tr (e T : Addr) (h : Heap) : Prop where
  ex : ∃ oe vs oT ts, h.get? e = some oe ∧ oe.data = .fields vs ∧ vs[1]? = some (.ref T) ∧ h.get? T = some oT ∧ oT.data = .fields ts ∧ ts[3]? = some .none
  ne : T ≠ e
structure XL (fs : List Addr) (e : Addr) (Ts : List Addr) (h h' : Heap) : Prop where
  keep : ∀ b o, b ≠ e → b ∉ Ts → b ∉ fs → h.get? b = some o → h'.get? b = some o
  slot : ∀ b o, b ≠ e → b ∉ Ts → h.get? b = some o → ∃ sl, h'.get? b = some { o with slots := sl }
  at_ : ∀ oe, h.get? e = some oe → ∃ oe', h'.get? e = some oe' ∧ oe'.cls = oe.cls ∧ oe'.dict = oe.dict
theorem fields_of {o : Obj} {f : Array Value → Array Value} : (o.mapFields f).cls = o.cls ∧ (o.mapFields f).dict = o.dict := by
  obtain ⟨c, d, dt, sl⟩ := o
  cases dt <;> exact ⟨rfl, rfl⟩
theorem xleave {base : Heap} {env : Env} {outer : List Env} {L e : Addr} {oe : Obj} {vs : Array Value} {Q : Unit → Shared → Prop}
    (fr : A.frames = some (env :: outer)) (ff : s.heap.FunFrames base (env :: outer)) (fL : env.frame = some L)
    (ee : s.heap.get? e = some oe) (ed : oe.data = .fields vs) (v1 : vs[1]? = some .none)
    (h : ∀ h' T, XL ((env :: outer).filterMap (·.frame)) e [] s.heap h' → Tr e T h' → s.heap.get? T = none → Q () { s with heap := h' }) : wpAny M A (leaving env (.ref e)) Q E s := by
  unfold leaving noteFrame
  simp only [fL]
  refine wpAny_bind (wpAny_bind (wpAny_field ee ed v1 ?_))
  rw [if_neg (by decide)]
  have sz := (Array.getElem?_eq_some_iff.mp v1).1
  refine xentry fr ff fL ee ed sz fun h' T oT ts x eT dT v3 hne => ?_
  have x3 := Obj.data_mapFields ed (·.setIfInBounds 1 (Value.ref T))
  have v3' := (Array.getElem?_eq_some_iff.mp v3).1
  refine xflight (s := { s with heap := h' }) x.at_ x3 (by simp [sz]) eT dT v3' ?_
  have ne : ∀ b o, s.heap.get? b = some o → T ≠ b := fun b o q z => by rw [← z, x.new] at q; cases q
  refine h _ T ⟨fun b o eb _ fL q => ?_, fun b o eb _ q => ?_, fun oe' q => ?_⟩ ⟨⟨_, _, _, _, ?_, x3, by simp [sz], Heap.get?_update_self _ eT (Obj.isFreed_of_fields (Obj.data_mapFields dT _)), Obj.data_mapFields dT _, by simp [v3']⟩, hne⟩ x.new
  · exact (Heap.get?_update_other _ _ (ne b o q)).trans (x.keep b o eb fL q)
  · obtain ⟨sl, z⟩ := x.slot b o eb q
    exact ⟨sl, (Heap.get?_update_other _ _ (ne b o q)).trans z⟩
  · rw [ee] at q; cases q
    exact ⟨_, (Heap.get?_update_other _ _ hne).trans x.at_, fields_of.1, fields_of.2⟩
  · exact (Heap.get?_update_other _ _ hne).trans x.at_
theorem xlook {base : Heap} {env : Env} {outer : List Env} {L e T : Addr} {Q : Unit → Shared → Prop}
    (fr : A.frames = some (env :: outer)) (ff : s.heap.FunFrames base (env :: outer)) (fL : env.frame = some L) (t : Tr e T s.heap)
    (h : ∀ h' T', XL ((env :: outer).filterMap (·.frame)) e [T] s.heap h' → Tr e T' h' → s.heap.get? T' = none → Q () { s with heap := h' }) :
    wpAny M A (noteFrame (.ref e) env) (fun _ s₂ => wpAny M A (setFlight (.ref e) none) Q E s₂) E s := by
  obtain ⟨⟨oe, vs, oT, ts, ee, ed, v1, eT, dT, v3⟩, nTe⟩ := t
  unfold noteFrame
  simp only [fL]
  refine wpAny_bind (wpAny_field ee ed v1 ?_)
  rw [if_pos (show (Value.ref T != Value.none) = true from by simp)]
  refine wpAny_bind (wpAny_field eT dT v3 ?_)
  rw [if_neg (show ¬ ((Value.none == rawInt L) = true) from by simp [rawInt])]
  refine wpAny_bind (wpAny_setField eT dT (Array.getElem?_eq_some_iff.mp v3).1 ?_)
  have sz := (Array.getElem?_eq_some_iff.mp v1).1
  have els : ∀ b, b ≠ T → (s.heap.update T (Obj.mapFields (·.setIfInBounds 3 Value.none))).get? b = s.heap.get? b := fun b eb => Heap.get?_update_other _ _ (Ne.symm eb)
  have norec : ∀ b o, s.heap.get? b = some o → (∀ vs, o.data ≠ .fields vs) → b ≠ T := fun b o eb nf q => by
    rw [q, eT] at eb; injection eb with eb; subst eb; exact nf ts dT
  refine xentry (ff := ff.of_keeps fun b o eb nf => ⟨o, (els b (norec b o eb nf)).trans eb, rfl⟩) fr (fL := fL) (ee := (els e (Ne.symm nTe)).trans ee) ed sz fun h' T' oT' ts' x eT' dT' v3' hne => ?_
  have x3 := Obj.data_mapFields ed (·.setIfInBounds 1 (Value.ref T'))
  have v3'' := (Array.getElem?_eq_some_iff.mp v3').1
  have nT : T ≠ T' := fun z => by
    have q := x.new
    rw [← z, Heap.get?_update_self _ eT (Obj.isFreed_of_fields (Obj.data_mapFields dT _))] at q
    cases q
  have new : s.heap.get? T' = none := by
    have q := x.new
    change (s.heap.update T (Obj.mapFields (·.setIfInBounds 3 Value.none))).get? T' = none at q
    rwa [els T' (Ne.symm nT)] at q
  refine xflight (s := { s with heap := h' }) x.at_ x3 (by simp [sz]) eT' dT' v3'' ?_
  have ne : ∀ b o, s.heap.get? b = some o → T' ≠ b := fun b o q z => by rw [← z, new] at q; cases q
  refine h _ T' ⟨fun b o eb ht fL q => ?_, fun b o eb ht q => ?_, fun oe' q => ?_⟩ ⟨⟨_, _, _, _, ?_, x3, by simp [sz], Heap.get?_update_self _ eT' (Obj.isFreed_of_fields (Obj.data_mapFields dT' _)), Obj.data_mapFields dT' _, by simp [v3'']⟩, hne⟩ new
  · exact (Heap.get?_update_other _ _ (ne b o q)).trans (x.keep b o eb fL ((els b (fun z => ht (by simp [z]))).trans q))
  · obtain ⟨sl, z⟩ := x.slot b o eb ((els b (fun z => ht (by simp [z]))).trans q)
    exact ⟨sl, (Heap.get?_update_other _ _ (ne b o q)).trans z⟩
  · rw [ee] at q; cases q
    exact ⟨_, (Heap.get?_update_other _ _ hne).trans x.at_, fields_of.1, fields_of.2⟩
  · exact (Heap.get?_update_other _ _ hne).trans x.at_
theorem xleave_on {base : Heap} {env : Env} {outer : List Env} {L e T : Addr} {Q : Unit → Shared → Prop}
    (fr : A.frames = some (env :: outer)) (ff : s.heap.FunFrames base (env :: outer)) (fL : env.frame = some L) (t : Tr e T s.heap)
    (h : ∀ h' T', XL ((env :: outer).filterMap (·.frame)) e [T] s.heap h' → Tr e T' h' → s.heap.get? T' = none → Q () { s with heap := h' }) : wpAny M A (leaving env (.ref e)) Q E s := by
  unfold leaving
  exact wpAny_bind (xlook fr ff fL t h)
theorem xagain {e T : Addr} {fs : List Addr} {Q : Unit → Shared → Prop} (t : Tr e T s.heap) (h : ∀ h', XL fs e [T] s.heap h' → Tr e T h' → Q () { s with heap := h' }) : wpAny M A (setFlight (.ref e) none) Q E s := by
  obtain ⟨⟨oe, vs, oT, ts, ee, ed, v1, eT, dT, v3⟩, nTe⟩ := t
  have v3' := (Array.getElem?_eq_some_iff.mp v3).1
  have els : ∀ b, b ≠ T → (s.heap.update T (Obj.mapFields (·.setIfInBounds 3 ((none : Option Addr).elim Value.none fun f => rawInt f)))).get? b = s.heap.get? b := fun b eb => Heap.get?_update_other _ _ (Ne.symm eb)
  refine xflight ee ed v1 eT dT v3' (h _ ⟨fun b o _ ht _ q => (els b (fun z => ht (by simp [z]))).trans q, fun b o _ ht q => ⟨o.slots, (els b (fun z => ht (by simp [z]))).trans q⟩, fun oe' q => ⟨oe', (els e (Ne.symm nTe)).trans q, rfl, rfl⟩⟩ ⟨⟨oe, vs, _, _, (els e (Ne.symm nTe)).trans ee, ed, v1, Heap.get?_update_self _ eT (Obj.isFreed_of_fields (Obj.data_mapFields dT _)), Obj.data_mapFields dT _, by simp [v3']⟩, nTe⟩)
end
end XE
set_option Elab.async false
set_option linter.all false
set_option maxRecDepth 100000
set_option maxHeartbeats 4000000
namespace XE
open PySem
abbrev Lk {α : Type} (M : Model) (g : Heap) (t : Sem α) (r : α) : Prop := ∀ (A : Around) (Q : α → Shared → Prop) (E : Value → Shared → Prop) (s : Shared), (∀ b o, g.get? b = some o → s.heap.get? b = some o) → Q r s → wpAny M A t Q E s
abbrev newTup (us : List Value) : Obj := { cls := .type "tuple", data := .seq us.toArray }
abbrev newExc (C p : Addr) : Obj := { cls := .ref C, data := .fields #[.ref p, .none, .none, .none, .bool false, .none] }
structure XC (g : Heap) (C : Addr) (B new : String) (up top : List Value) : Prop where
  obj : ∃ nm q N bs hd sn sub ab col dd a0 a1 a2 a3 a5, g.get? C = some (excClassObj nm q C N bs up hd sn sub ab col dd a0 a1 a2 a3 a5 new)
  tail : OwnTail g top up
theorem XC.keeps {g g' : Heap} {C : Addr} {B new : String} {up top : List Value} (x : XC g C B new up top) (k : ∀ b o, g.get? b = some o → g'.get? b = some o) : XC g' C B new up top := by
  obtain ⟨a1, a2, a3, a4, a5, a6, a7, a8, a9, a10, a11, a12, a13, a14, a15, e⟩ := x.obj
  exact ⟨⟨a1, a2, a3, a4, a5, a6, a7, a8, a9, a10, a11, a12, a13, a14, a15, k _ _ e⟩, x.tail.keeps k⟩
section
variable {P : Program} {w : World} {A : Around} {E : Value → Shared → Prop} {g : Heap} {gs : Array GenState} {dr : Drawn} {tk : Nat} {os : OsState} {C : Addr} {B new init : String} {up top : List Value}
abbrev made (g : Heap) (C : Addr) (us : List Value) : Heap := (g.push (newTup us)).push (newExc C g.objs.size)
theorem made_old {b : Addr} {o : Obj} {us : List Value} (e : g.get? b = some o) : (made g C us).get? b = some o := Heap.get?_push_of_some _ (Heap.get?_push_of_some _ e)
theorem made_new {us : List Value} : (made g C us).get? (g.objs.size + 1) = some (newExc C g.objs.size) := by
  have e := Heap.get?_push_size (g.push (newTup us)) (o := newExc C g.objs.size) rfl
  rwa [Heap.size_push] at e
theorem xbase (F : ExcBaseFacts B new init top) (x : XC g C B new up top) {e p : Addr} {ob : Obj} {us : List Value} {Q : Value → Shared → Prop} (e1 : g.get? e = some ob) (e2 : ob.cls = .ref C)
    (e3 : ob.data = .fields #[.ref p, .none, .none, .none, .bool false, .none]) (few : us.length ≤ sizeLine)
    (k : ∀ g', (∀ b o, b ≠ e → g.get? b = some o → g'.get? b = some o) → g'.get? e = some { ob with data := .fields #[.ref g.objs.size, .none, .none, .none, .bool false, .none] } → Q .none ⟨g', gs, dr, tk, os⟩) :
    wpAny (model P w) A (call (.builtin init) (.ref e :: us)) Q E ⟨g, gs, dr, tk, os⟩ := by
  obtain ⟨⟨nm, q, N, bs, hd, sn, sub, ab, col, dd, a0, a1, a2, a3, a5, eC⟩, T⟩ := x
  refine wpAny_call (codeAny_call_builtin F.init.plain F.initEntry (wpAny_check_init_subT F T eC e1 e2 ?_))
  have e4 := Heap.get?_push_of_some (newTup us) e1
  obtain ⟨oc, od, odt, osl⟩ := ob
  dsimp only at e2 e3
  subst e2 e3
  wp_walk
  refine k _ (fun b o ne z => (Heap.get?_update_other _ _ (Ne.symm ne)).trans (Heap.get?_push_of_some _ z)) ?_
  rw [Heap.get?_update_self _ e4 rfl]
  rfl
theorem xraise {M : Model} {env : Env} {s : Shared} {t : Sem Value} {Q : Flow → Shared → Prop} (hb : top.contains (.type "BaseException") = true) (hh : A.handled = none)
    (k : wpAny M A t (fun v s1 => ∃ e ob p, v = .ref e ∧ XC s1.heap C B new up top ∧ s1.heap.get? e = some ob ∧ ob.cls = .ref C ∧ ob.data = .fields #[.ref p, .none, .none, .none, .bool false, .none] ∧ E (.ref e) s1) E s) :
    wpAny M A (raiseStmt env (some t) none) Q E s := by
  unfold raiseStmt
  refine wpAny_bind (wpAny_mono k (fun v s1 z => ?_) fun _ _ z => z)
  obtain ⟨e, ob, p, e0, ⟨⟨nm, q, N, bs, hd, sn, sub, ab, col, dd, a0, a1, a2, a3, a5, eC⟩, T⟩, e1, e2, e3, z⟩ := z
  subst e0
  have base : (Value.ref C :: up).contains (.type "BaseException") = true := by rw [List.contains_cons, T.hasType hb]; rfl
  obtain ⟨h1, g1, d1, t1, o1⟩ := s1
  obtain ⟨oc, od, odt, osl⟩ := ob
  dsimp only at e2 e3
  subst e2 e3
  repeat (first | with_reducible refine wpAny_loadPart_at e1 ?_ | (with_reducible refine wpAny_isSubtype_exc eC ?_; rw [base]) | wp_step)
  exact wpAny_raiseNew_none hh z
end
end XE
set_option Elab.async false
set_option linter.all false
set_option maxRecDepth 100000
set_option maxHeartbeats 1000000
namespace XE
open PySem PySem.W PySem.Calls PyProof.Rows Builtin Builtin.ObjectAttr
abbrev vmro : List Value := [.type "ValueError", .type "Exception", .type "BaseException", .type "object"]
structure XKl (K : Frag) (C NE : Addr) : Prop where
  mr : ((clsIn K C).any fun cd => cd.mro == .ref C :: .ref NE :: vmro) = true
  ga : findIn K (.ref C) "__getattribute__" = some (some (.builtin "BaseException.__getattribute__"))
  gh : findIn K (.ref C) "__getattr__" = some none
  sb : subIn K (.ref C) (.type "BaseException") = some true
  hd : hasDictIn K C = true
  cl : findIn K (.ref C) "__class__" = some (some (.builtin "object.__class__"))
  cg : specialIn K (.builtin "object.__class__") "__get__" = some (some (.builtin "getset_descriptor.__get__"))
  ct : takesIn K (.builtin "object.__class__") = some true
  ob : mroIn K C (.type "object") = some true
  sa : findIn K (.ref C) "__setattr__" = some (some (.builtin "object.__setattr__"))
theorem bga : Slot "ValueError" "__getattribute__" "BaseException.__getattribute__" :=
  .of (owner := "BaseException") (n := "__getattribute__") (by rw [typeLookup_type, builtinLookup_eq_fast]; kernel_rfl) (by decide +kernel) (by decide +kernel) (by decide +kernel) (by first | exact .inl (by decide +kernel) | exact .inr (by decide +kernel)) (by rw [isSubtype_type]; kernel_rfl)
theorem bga_k : builtinKind "BaseException.__getattribute__" = some .slot := by decide +kernel
theorem bga_s : splitId "BaseException.__getattribute__" = some ("BaseException", "__getattribute__") := by decide +kernel
theorem bga_n : (Value.builtin "BaseException.__getattribute__" == Value.builtin "object.__getattribute__") = false := by decide +kernel
section
variable {P : Program} {w : World} {A : Around} {E : Value → Shared → Prop} {R : Result → Shared → Prop} {s : Shared} {K : Frag} {x C NE : Addr} {ox : Obj} {od : Option Obj} {name : Str}
theorem xby {tk : Tok} {fill expr : Bool} {Q : Value → Shared → Prop} (X : K.In s.heap) (I : InstAt s.heap x ox C od) (k : XKl K C NE)
    (h : wpAny (model P w) A.in1 (Builtin.«object.__getattribute__» ⟨[.ref x, .str name tk], []⟩) (fun fin s' => match fin with | .done (.ret v) => wpAny (model P w) A (handedOut v) Q E s' | _ => False) (fun _ _ => False) s) :
    wpAny (model P w) A (getAttrBy (.ref x) (.str name tk) fill expr) Q E s := by
  have hx : (expr && onTheHeap (Value.builtin "BaseException.__getattribute__")) = false := by cases expr <;> rfl
  unfold getAttrBy
  refine wpAny_holding (wpAny_bind (I.type.here (wpAny_bind ((looks_findIn X k.ga).here ?_))))
  dsimp only
  rw [bga_n, Bool.and_false, if_neg (by decide)]
  unfold getAttrByItsOwn
  refine wpAny_bind ((looks_hook (mc := .ref C) X (r := none) (by rw [if_pos (show onTheHeap (Value.ref C) = true from rfl)]; exact k.gh)).here (wpAny_bind (wpAny_attempt (wpAny_holding ?_))))
  unfold callGetattribute
  rw [hx, if_neg (by decide)]
  unfold boundAndCalled
  rw [bga.bind]
  refine wpAny_bind (wpAny_pure ?_)
  show wpAny _ _ (call (.builtin "BaseException.__getattribute__") [.ref x, .str name tk]) _ _ _
  refine wpAny_call ?_
  refine codeAny_call_builtin bga.plain F.entry_bexc_ga ?_
  refine @check_slot (model P w) _ _ s "BaseException.__getattribute__" "BaseException" "__getattribute__" (.ref x) [.str name tk] [] _ bga_k bga_s (I.type.andThen (looks_subIn X k.sb)) (F.args_bexc_ga (.ref x) (.str name tk)) ?_
  refine wpAny_mono h (fun fin s' z => ?_) fun _ _ z => z.elim
  rcases fin with (_ | _ | _ | _) | _ <;> first | exact z | exact z.elim
end
end XE
set_option Elab.async false
set_option linter.all false
set_option maxRecDepth 100000
set_option maxHeartbeats 1000000
namespace L2
open PySem PySem.Spec PyProof.Rows PySem.Calls
noncomputable def XOk (e C : Addr) (d : Option Addr) (fresh : Bool) (h : Heap) : Prop := ∃ o vs, h.get? e = some o ∧ o.cls = .ref C ∧ o.dict = d ∧ o.data = .fields vs ∧ (fresh = true → ∃ t, vs = #[.ref t, .none, .none, .none, .bool false, .none])
abbrev XO (e C : Addr) (d : Option Addr) (fresh : Bool) : HO := .ext (XOk e C d fresh)
section
variable {P : Program} {w : World} {H H1 H2 : Hp} {h h1 h2 : Heap} {a e C L : Addr} {d : Option Addr} {b : Bool} {o u : HO} {fs Ts : List Addr}
theorem xo_ok (x : XOk e C d b h) : ObjOk P w H h e (XO e C d b) := by
  obtain ⟨o, vs, h1, r⟩ := id x
  exact ⟨x, ⟨o, h1⟩, fun g1 g2 ⟨o, vs, q, r⟩ k => ⟨o, vs, k o q, r⟩⟩
theorem ObjOk.there (x : ObjOk P w H h a o) : ∃ u, h.get? a = some u := by
  induction o with
  | lst xs => obtain ⟨_, _, _, _, e⟩ := x; exact ⟨_, e⟩
  | tup xs => obtain ⟨_, _, _, _, e, _⟩ := x; exact ⟨_, e⟩
  | dK kvs => obtain ⟨_, _, _, _, o, _, _, e, _⟩ := x; exact ⟨_, e⟩
  | dT kvs => obtain ⟨_, _, _, _, o, _, _, e, _⟩ := x; exact ⟨_, e⟩
  | set S n => obtain ⟨o, _, _, _, e, _⟩ := x; exact ⟨_, e⟩
  | ins C dx fs => obtain ⟨_, _, _, e, _⟩ := x; exact ⟨_, e⟩
  | own y => obtain ⟨_, e⟩ := x; exact ⟨_, e⟩
  | xd fs => obtain ⟨_, ⟨_, _, _, e, _⟩, _⟩ := x; exact ⟨_, e⟩
  | rng lo hi => obtain ⟨_, _, _, e⟩ := x; exact ⟨_, e⟩
  | frz ob u ih => obtain ⟨e, _⟩ := x; exact ⟨_, e⟩
  | tbl ps => exact ⟨_, (show h.get? a = some _ from x)⟩
  | met f y => exact ⟨_, (show h.get? a = some _ from x)⟩
  | ext φ => obtain ⟨_, e, _⟩ := x; exact e
theorem HOk.nothere (x : HOk P w H h) (n : h.get? a = none) : H a = none := by
  cases q : H a with
  | none => rfl
  | some u => obtain ⟨v, z⟩ := (x a u q).there; rw [n] at z; cases z
theorem Un.exc (x : Un fs [] H H1 h h1) {φ : Heap → Prop} (he : H1 e = some (.ext φ)) {ψ : Heap → Prop} (he2 : H2 e = some (.ext ψ)) (els : ∀ b, b ≠ e → H2 b = H1 b) (y : XE.XL (L :: fs) e Ts h1 h2) (hL : h.get? L = none) (hT : ∀ T ∈ Ts, h.get? T = none) : Un fs [] H H2 h h2 := by
  have ne : ∀ b ob, h.get? b = some ob → H b = none → b ≠ e := fun b ob q n z => by
    have := x.free b ob q n (by simp)
    rw [z, he] at this; cases this
  have nT : ∀ b ob, h.get? b = some ob → b ∉ Ts := fun b ob q z => by rw [hT b z] at q; cases q
  have nL : ∀ b ob, h.get? b = some ob → b ≠ L := fun b ob q z => by rw [z, hL] at q; cases q
  refine ⟨fun b ob q n hb _ => ?_, fun b ob q n hb _ => ?_, fun b ob q n _ => ?_, fun b ob q _ => ?_, fun b xs q => ?_, fun b ob u q => ?_, fun b ps q => ?_⟩
  · exact y.keep b ob (ne b ob q n) (nT b ob q) (fun z => (List.mem_cons.mp z).elim (nL b ob q) hb) (x.keep b ob q n hb (by simp))
  · obtain ⟨sl, z⟩ := x.slot b ob q n hb (by simp)
    obtain ⟨sl2, z2⟩ := y.slot b _ (ne b ob q n) (nT b ob q) z
    exact ⟨sl2, z2⟩
  · rw [els b (ne b ob q n)]; exact x.free b ob q n (by simp)
  · obtain ⟨o', z⟩ := x.there b ob q (by simp)
    by_cases hb : b = e
    · subst hb
      obtain ⟨oe, z2, _⟩ := y.at_ o' z
      exact ⟨oe, z2⟩
    · obtain ⟨sl, z2⟩ := y.slot b o' hb (nT b ob q) z
      exact ⟨_, z2⟩
  · have z := x.tups b xs q
    rw [els b (ne_of z he (by intro k; cases k))]; exact z
  · have z := x.frzs b ob u q
    rw [els b (ne_of z he (by intro k; cases k))]; exact z
  · obtain ⟨m, z⟩ := x.tbls b ps q
    exact ⟨m, by rw [els b (ne_of z he (by intro k; cases k))]; exact z⟩
theorem HOk.exc (x : HOk P w H1 h1) {φ : Heap → Prop} (he : H1 e = some (.ext φ)) {ψ : Heap → Prop} (he2 : H2 e = some (.ext ψ)) (new : ObjOk P w H2 h2 e (.ext ψ)) (els : ∀ b, b ≠ e → H2 b = H1 b) (y : XE.XL fs e Ts h1 h2) (hf : ∀ b ∈ fs, H1 b = none) (hT : ∀ T ∈ Ts, H1 T = none) : HOk P w H2 h2 := fun b u q => by
  by_cases hb : b = e
  · subst hb; rw [he2] at q; cases q; exact new
  · rw [els b hb] at q
    have trk : ∀ c v ob, c ≠ e → H1 c = some v → h1.get? c = some ob → h2.get? c = some ob := fun c v ob hc z k =>
      y.keep c ob hc (fun i => by rw [hT c i] at z; cases z) (fun i => by rw [hf c i] at z; cases z) k
    refine (x b u q).stay (fun c ob hc k => ?_) (fun c z => ?_) fun c xs z => ?_
    · rcases hc with z | z
      · subst z; exact trk c u ob hb q k
      · exact trk c _ ob (ne_of z he (by intro k; cases k)) z k
    · rw [els c (ne_of z he (by intro k; cases k))]; exact z
    · rw [els c (ne_of z he (by intro k; cases k))]; exact z
theorem xo_exc (x : XOk e C d b h1) (y : XE.XL fs e Ts h1 h2) (t : ∃ T, XE.Tr e T h2) : XOk e C d false h2 := by
  obtain ⟨o, vs, h1, c1, c2, _⟩ := x
  obtain ⟨oe, z, e1, e2⟩ := y.at_ o h1
  obtain ⟨T, ⟨oe', vs', _, _, z', dd, _⟩, _⟩ := t
  rw [z] at z'; cases z'
  exact ⟨oe, vs', z, e1.trans c1, e2.trans c2, dd, fun k => by cases k⟩
end
noncomputable def CX1 (P : Program) (w : World) : CXT := fun outer H s E ev s' => ∃ (e C T : Addr) (d : Option Addr) (H' : Hp), ev = .ref e ∧ s'.os = s.os ∧ AllBare s'.gens ∧ Un (frs outer) [] H H' s.heap s'.heap ∧ HOk P w H' s'.heap ∧
  H' e = some (XO e C d false) ∧ s.heap.get? T = none ∧ H' T = none ∧ XE.Tr e T s'.heap ∧ E (.ref C) (some e) H'
theorem ff_of {base h h' : Heap} : ∀ {l : List Env}, h.FunFrames base l → (∀ b ∈ frs l, ∀ o, h.get? b = some o → ∃ sl, h'.get? b = some { o with slots := sl }) → h'.FunFrames base l
  | [], _, _ => trivial
  | env :: r, ⟨hk, ⟨L, o, hf, hn, ho, hd⟩, hr⟩, k => by
    have hL : L ∈ frs (env :: r) := by unfold frs; rw [List.filterMap_cons, hf]; exact List.mem_cons_self
    obtain ⟨sl, e⟩ := k L hL o ho
    exact ⟨hk, ⟨L, _, hf, hn, e, hd⟩, ff_of hr fun b hb => k b (by unfold frs; rw [List.filterMap_cons, hf]; exact List.mem_cons_of_mem _ hb)⟩
section
variable {P : Program} {w : World} {K : PySem.W.Frag} {mg : Str → Option Value} {base : Heap} {N : List Str} {qual : Str} {scope : Scope} {f : Addr} {cd : Value} {A : Around} {outer : List Env} {s s1 : Shared} {H H1 : Hp} {E : XK} {pins : List (Addr × Obj)} {σ : St} {e C : Addr} {d : Option Addr}
theorem xleave_ok (I : Inv (cxOf (CX1 P w) P w K mg base N qual scope f cd A outer s H E) pins σ H1 s1) (he : H1 e = some (XO e C d true)) (hE : E (.ref C) (some e) (upd H1 e (XO e C d false))) :
    (cxOf (CX1 P w) P w K mg base N qual scope f cd A outer s H E).xe (.ref e) s1 := by
  have xo : XOk e C d true s1.heap := (I.hok e _ he).1
  obtain ⟨o, vs, g1, g2, g3, g4, g5⟩ := id xo
  obtain ⟨t, rfl⟩ := g5 rfl
  refine XE.xleave (base := base) I.ok.frames I.stack rfl g1 g4 rfl fun h' T xl tr new => ?_
  have hT1 : H1 T = none := I.hok.nothere new
  have nTe : T ≠ e := tr.ne
  have hL : s.heap.get? s.heap.objs.size = none := Heap.get?_none_of_le (Nat.le_refl _)
  have els : ∀ b, b ≠ e → upd H1 e (XO e C d false) b = H1 b := fun b hb => upd_ne hb
  refine ⟨e, C, T, d, upd H1 e (XO e C d false), rfl, I.os, I.bare, Un.exc (L := s.heap.objs.size) (Ts := []) I.base he upd_same els xl hL (by simp), ?_, upd_same, ?_, by rw [upd_ne nTe]; exact hT1, tr, hE⟩
  · exact HOk.exc (Ts := []) I.hok he upd_same (xo_ok (xo_exc xo xl ⟨T, tr⟩)) els xl (fun b hb => I.stkFree b hb) (by simp)
  · cases q : s.heap.get? T with
    | none => rfl
    | some ob =>
      obtain ⟨o', z⟩ := I.base.there T ob q (fun z => absurd (show T ∈ ([] : List Addr) from z) (by simp))
      rw [new] at z; cases z
end
section
variable {X : Cx} {pins : List (Addr × Obj)} {σ : St} {H : Hp} {s : Shared}
abbrev Cx.marked (X : Cx) (e : Addr) : Cx := { X with A := X.A.mark (some (.ref e)), calm := false, xe := fun _ _ => False }
theorem Inv.mark (I : Inv X pins σ H s) (e : Addr) : Inv (X.marked e) pins σ H s :=
  ⟨⟨I.ok.mod, I.ok.kind, I.ok.glob, I.ok.blt, I.ok.above, I.ok.inj, I.ok.has, I.ok.cab, (fun z => by cases z), I.ok.frames, I.ok.stk, I.ok.exf, I.ok.bs, I.ok.bsz, I.ok.noex, I.ok.exfs, I.ok.funs, I.ok.frf⟩, I.os, I.bare, I.base, I.loc, I.cell, I.free, I.freeC, I.pin, I.hok, I.len⟩
theorem Inv.unmark {e : Addr} (I : Inv (X.marked e) pins σ H s) (hd : X.calm = true → X.A.handled = none) : Inv X pins σ H s :=
  ⟨⟨I.ok.mod, I.ok.kind, I.ok.glob, I.ok.blt, I.ok.above, I.ok.inj, I.ok.has, I.ok.cab, hd, I.ok.frames, I.ok.stk, I.ok.exf, I.ok.bs, I.ok.bsz, I.ok.noex, I.ok.exfs, I.ok.funs, I.ok.frf⟩, I.os, I.bare, I.base, I.loc, I.cell, I.free, I.freeC, I.pin, I.hok, I.len⟩
theorem gone_ok {M : Model} {A : Around} {E : Value → Shared → Prop} {i : Nat} {x : Str} {pos : Pos} {Q : Unit → Shared → Prop} (I : Inv X pins σ H s) (hN : X.N.Nodup) (hi : X.N[i]? = some x) (hk : X.env.kindOf x = some .local)
    (h : ∀ s', Inv X pins (σ.set i none) H s' → Q () s') : wpAny M A (do bindName X.env x .none; unbindBehindTheSuite X.env x pos) Q E s := by
  obtain ⟨m, hn, hl⟩ := id I.loc
  have hcls : (X.env.scope.kind == .class || (X.env.scope.kind == .module && X.env.locals != X.env.globals)) = false := by rw [I.ok.kind]; rfl
  have hiσ : i < σ.length := by rw [I.len]; exact (List.getElem?_eq_some_iff.mp hi).1
  refine wpAny_nameGoes_keeps hk hn hcls fun h' v hn' hs => ?_
  obtain ⟨oL, _, _, hoL, _⟩ := id hn
  have neL : ∀ b o, X.s₀.heap.get? b = some o → b ≠ X.env.locals := fun b o e => Nat.ne_of_lt (Nat.lt_of_lt_of_le (Heap.lt_size e) I.ok.above)
  refine h { s with heap := h', toks := s.toks + 1 } ⟨I.ok, I.os, I.bare, ⟨fun b o e n hb hx => (hs.2 b (neL b o e)).trans (I.base.keep b o e n hb hx), fun b o e n hb hx => ?_, I.base.free, fun b o e hx => ?_, I.base.tups, I.base.frzs, I.base.tbls⟩, ⟨_, hn', fun j y v' e1 e2 e3 => ?_⟩, fun y c e => ?_, I.free, I.freeC, fun p hp => ?_, fun b ob e => ?_, by simpa using I.len⟩
  · obtain ⟨sl, e1⟩ := I.base.slot b o e n hb hx
    exact ⟨sl, (hs.2 b (neL b o e)).trans e1⟩
  · obtain ⟨o', e1⟩ := I.base.there b o e hx
    exact ⟨o', (hs.2 b (neL b o e)).trans e1⟩
  · have hj : j ≠ i := fun z => by
      subst z
      rw [List.getElem?_set_self hiσ] at e2
      cases e2
    rw [List.getElem?_set_ne (Ne.symm hj)] at e2
    obtain ⟨u', r', q⟩ := hl j y v' e1 e2 e3
    refine ⟨u', r', ?_⟩
    rcases q with ⟨k, z⟩ | ⟨k, c, z, z2⟩
    · have ny : y ≠ x := fun z => hj (nodup_ix hN e1 (z ▸ hi))
      exact .inl ⟨k, by show (if y = x then v else m y) = some u'; rw [if_neg ny]; exact z⟩
    · exact .inr ⟨k, c, z, z2.sameBut hs (I.cne y c z)⟩
  · obtain ⟨w', z⟩ := I.cell y c e
    exact ⟨w', z.sameBut hs (I.cne y c e)⟩
  · obtain ⟨e, n, ne, nf, dd⟩ := I.pin p hp
    exact ⟨(hs.2 p.1 ne).trans e, n, ne, nf, dd⟩
  · refine (I.hok b ob e).stay (fun c w' hc q => (hs.2 c ?_).trans q) (fun _ q => q) fun _ _ q => q
    intro z
    subst z
    rcases hc with z | z
    · rw [← z, I.free] at e; cases e
    · rw [I.free] at z; cases z
end
noncomputable def tRaise (C : Addr) (te : TE) (R : Addr → Option Addr → Hp → Prop) : TS := fun _ σ H => te σ H fun v H1 => ∃ e d, v = .ref e ∧ H1 e = some (XO e C d true) ∧ R e d H1
section
variable {X : Cx}
structure XMk (K : PySem.W.Frag) (C NE : Addr) : Prop where
  xc : ∀ h : Heap, K.In h → XE.XC h C "ValueError" "ValueError.__new__" (.ref NE :: XE.vmro) XE.vmro
  kp : PySem.W.keepIn K (.ref C) = true
  kl : XE.XKl K C NE
theorem ps_raise {ex : Expr} {te : TE} {R : Addr → Option Addr → Hp → Prop} {pos : Pos} {C NE : Addr} (M : XMk X.K C NE) (hc : X.calm = true) (he : PE X ex te)
    (hx : ∀ pins σ H s e d, Inv X pins σ H s → H e = some (XO e C d true) → R e d H → X.xe (.ref e) s) :
    PS X (.Raise (some ex) none pos) (tRaise C te R) := by
  intro pins s σ H D I h
  rw [arm_exec_Raise]
  refine wpAny_bind (wpAny_standAt (XE.xraise (C := C) (B := "ValueError") (new := "ValueError.__new__") (up := .ref NE :: XE.vmro) (top := XE.vmro) (by decide +kernel) (I.ok.hd hc) ?_))
  refine wpAny_bind (thn (he pins s σ H _ I h) fun v s1 z => wpAny_bind (wpAny_standAt (wpAny_pure ?_)))
  obtain ⟨x, H1, I1, rx, e, d, ex, eo, r⟩ := z
  subst ex
  cases (show v = Value.ref e from rx)
  have xo : XOk e C d true s1.heap := (I1.hok e _ eo).1
  obtain ⟨o, vs, g1, g2, g3, g4, g5⟩ := xo
  obtain ⟨t, rfl⟩ := g5 rfl
  exact ⟨e, o, t, rfl, M.xc _ I1.kIn, g1, g2, g4, hx pins σ H1 s1 e d I1 eo r⟩
end
end L2
set_option Elab.async false
set_option linter.all false
set_option maxRecDepth 100000
set_option maxHeartbeats 1000000
namespace L2
open PySem PySem.Spec PyProof.Rows PySem.Calls
section
variable {X : Cx}
theorem exc_on {pins : List (Addr × Obj)} {σ : St} {H H1 : Hp} {s s1 : Shared} {e C T T2 : Addr} {d : Option Addr} {h2 : Heap} {Ts : List Addr} (I : Inv X pins σ H s) (hst : X.stack = X.env :: X.outer) (hos : s1.os = s.os) (hb : AllBare s1.gens) (un : Un (frs X.stack) [] H H1 s.heap s1.heap) (hok : HOk X.prog X.w H1 s1.heap)
    (eo : H1 e = some (XO e C d false)) (hT : ∀ T ∈ Ts, s.heap.get? T = none) (hT1 : ∀ T ∈ Ts, H1 T = none) (xl : XE.XL (frs X.stack) e Ts s1.heap h2) (tr : XE.Tr e T2 h2) (fr : ∀ b ∈ frs X.stack, H1 b = none) :
    Un (frs X.stack) [] H H1 s.heap h2 ∧ HOk X.prog X.w H1 h2 := by
  have xo : XOk e C d false s1.heap := (hok e _ eo).1
  have xl' : XE.XL (s.heap.objs.size :: frs X.stack) e Ts s1.heap h2 := ⟨fun b o n t f q => xl.keep b o n t (fun z => f (List.mem_cons_of_mem _ z)) q, xl.slot, xl.at_⟩
  exact ⟨Un.exc (L := s.heap.objs.size) un eo eo (fun _ _ => rfl) xl' (Heap.get?_none_of_le (Nat.le_refl _)) hT, HOk.exc hok eo eo (xo_ok (xo_exc xo xl ⟨T2, tr⟩)) (fun _ _ => rfl) xl fr hT1⟩
theorem xo_inst {pins : List (Addr × Obj)} {σ : St} {H : Hp} {s : Shared} {e C dx : Addr} {fr : Bool} {fs : List (Str × V)} (I : Inv X pins σ H s) (eo : H e = some (XO e C (some dx) fr)) (ed : H dx = some (.xd fs)) :
    ∃ (ox od : Obj) (mA : Str → Option Value), PySem.W.InstAt s.heap e ox C (some od) ∧ (∀ n, PySem.W.lookIn n od = some (mA n)) ∧ ∀ f, RelO (fs.lookup f) (mA f) := by
  have xo : XOk e C (some dx) fr s.heap := (I.hok e _ eo).1
  obtain ⟨ob, vs, g1, g2, g3, g4, g5⟩ := xo
  obtain ⟨mA, ns, r⟩ := (I.hok dx _ ed : ObjOk X.prog X.w H s.heap dx (.xd fs))
  obtain ⟨od, ho, hl⟩ := lookIn_ns ns
  refine ⟨ob, od, mA, ⟨g1, g2, ?_, by rw [g3]; exact ho⟩, hl, r⟩
  obtain ⟨_, _, dt, _⟩ := ob
  dsimp only at g4
  subst g4
  rfl
noncomputable def clsV : V → Value
  | .ref a => .ref a
  | .ty n => .type n
  | _ => .none
end
end L2
set_option Elab.async false
set_option linter.all false
set_option maxRecDepth 100000
set_option maxHeartbeats 1000000
namespace XE
open PySem PySem.W PySem.Calls PyProof.Rows
section
variable {P : Program} {w : World} {A : Around} {E : Value → Shared → Prop} {g : Heap} {gs : Array GenState} {dr : Drawn} {tk : Nat} {os : OsState} {C : Addr} {B new init : String} {up top : List Value}
theorem xmakeB (F : ExcBaseFacts B new init top) (x : XC g C B new up top) {us : List Value} {Q : Value → Shared → Prop}
    (hi : Lk (model P w) g (typeLookup (.ref C) "__init__") (some (.builtin init))) (few : us.length ≤ sizeLine)
    (k : ∀ g' p, (∀ b o, g.get? b = some o → g'.get? b = some o) → g'.get? (g.objs.size + 1) = some (newExc C p) → Q (.ref (g.objs.size + 1)) ⟨g', gs, dr, tk, os⟩) :
    wpAny (model P w) A (call (.ref C) us) Q E ⟨g, gs, dr, tk, os⟩ := by
  have xx := x
  obtain ⟨⟨nm, q, N, bs, hd, sn, sub, ab, col, dd, a0, a1, a2, a3, a5, eC⟩, T⟩ := x
  have l1 := tc_lookup
  have l2 := tc_bind (.ref C)
  have ty : (⟨g, gs, dr, tk, os⟩ : Shared).TypeIs (.ref C) "type" := ⟨_, eC, rfl⟩
  refine wpAny_call (codeAny_of_tree (?_ : wpAny _ _ (callAny (.ref C) ⟨us, []⟩) _ _ _))
  repeat (any_goals (first | assumption | wp_step))
  refine ⟨rfl, codeAny_call_builtin_at (Code.quiet_builtin _ (by decide +kernel)) entry_typeCall (wpAny_check_type_call_sub eC ?_)⟩
  repeat (first | with_reducible refine wpAny_madeBy_exc eC ?_ | wp_step)
  refine codeAny_call_builtin_code (Code.quiet_builtin _ F.quiet) (wpAny_check_new_subT F T eC (codeAny_exc_new_subT F T eC (?_ : wpAny _ _ _ _ _ _) few))
  have eC' := made_old (C := C) (us := us) eC
  have eN : (made g C us).get? (g.objs.size + 1) = some (newExc C g.objs.size) := made_new
  have own : (Value.ref C :: up).contains (.ref C) = true := by simp
  unfold isInstance
  repeat (first | with_reducible refine wpAny_loadPart_at eN ?_ | wp_step)
  refine wpAny_isSubtype_exc eC' ?_
  rw [own]
  repeat (first | with_reducible refine wpAny_loadPart_at eN ?_ | wp_step)
  refine (?_ : wpAny _ _ (typeLookup (.ref C) "__init__") _ _ _)
  refine hi _ _ _ _ (fun b o e => made_old e) (wpAny_holding (wpAny_bind (wpAny_of_eq (F.init.bind _) ?_)))
  refine wpAny_bind (xbase F (xx.keeps fun b o e => made_old e) eN rfl rfl few fun g' kp ne => ?_)
  wp_walk
  exact k g' _ (fun b o e => kp b o (Nat.ne_of_lt (Nat.lt_succ_of_lt (Heap.lt_size e))) (made_old e)) ne
end
section
variable {P : Program} {w : World} {A : Around} {E : Value → Shared → Prop} {s : Shared} {K : Frag} {x C NE : Addr} {ox : Obj} {od : Option Obj}
theorem findObj_data' {a g : Value} {name : Str} (hc : (clsIn K C).isSome = true) (ha : findIn K (.ref C) name = some (some a)) (hg : specialIn K a "__get__" = some (some g)) (ht : takesIn K a = some true) : findObj K C od name = some (.bind g a) := by
  obtain ⟨cd, hc⟩ := Option.isSome_iff_exists.mp hc
  unfold findObj
  rw [hc, Option.bind_some, ha, Option.bind_some]
  simp [hg, ht]
theorem xcls' {Q : Option Value → Shared → Prop} (X : K.In s.heap) (I : InstAt s.heap x ox C od) (k : XKl K C NE) (h : Q (some (.ref C)) { s with toks := s.toks + 1 }) : wpAny (model P w) A (getAttr? (.ref x) "__class__") Q E s := by
  have hf : findObj K C od "__class__" = some (.bind (.builtin "getset_descriptor.__get__") (.builtin "object.__class__")) := findObj_data' (by obtain ⟨cd, hc, _⟩ := any_some k.hd; rw [hc]; rfl) k.cl k.cg k.ct
  unfold getAttr? getAttrBy?
  refine wpAny_bind (wpAny_mkText (wpAny_bind (wpAny_attempt (xby (s := { s with toks := s.toks + 1 }) X I k ?_))))
  have L0 := I.type (M := model P w)
  have L1 := looks_find (M := model P w) X I hf
  refine wpAny_bind (wpAny_pure (wpAny_bind (wpAny_pure (wpAny_bind (Looks.here (s := { s with toks := s.toks + 1 }) L0 (wpAny_bind (Looks.here (s := { s with toks := s.toks + 1 }) L1 ?_)))))))
  refine (?_ : wpAny _ _ (holding [Value.builtin "object.__class__"] (call (.builtin "getset_descriptor.__get__") [.builtin "object.__class__", .ref x, .ref C]) >>= ret) _ _ _)
  refine wpAny_bind (wpAny_holding (wpAny_call (class_get (s := { s with toks := s.toks + 1 }) (ox := ox) (od := od) X I k.ob (wpAny_pure ?_))))
  exact handed_on rfl (wpAny_pure h)
theorem xkit' (k : XKl K C NE) : KitX K (.ref x) (.ref C) (fun g => InstAt g x ox C od) where
  ty := fun _ _ _ I => I.type
  it := fun _ _ X _ => by
    obtain ⟨cd, hc, _⟩ := any_some k.hd
    unfold clsIn at hc
    split at hc
    · rename_i ho
      intro A' Q' E' s' kk q
      unfold isType loadHead
      exact wpAny_bind (wpAny_loadPart (kk _ _ (X _ _ ho)) (wpAny_pure q))
    · cases hc
  ne := fun g tp dd its n sl X htp => by
    obtain ⟨cd, hc, _⟩ := any_some k.hd
    refine Bool.eq_false_iff.mpr fun q => ?_
    cases Value.ref.inj (beq_iff_eq.mp q)
    unfold clsIn at hc
    split at hc
    · rename_i ho
      cases (X _ _ ho).symm.trans htp
    · cases hc
  ca := fun X I q => xcls' X I k q
end
end XE
namespace L2
open PySem PySem.Spec PyProof.Rows PySem.Calls
section
variable {X : Cx}
noncomputable def tXMakeB (C : Addr) (t : TA) : TE := fun σ H Q => t σ H fun vs H1 => vs.length ≤ sizeLine ∧ ∀ x, H1 x = none → Q (.ref x) (upd H1 x (XO x C none true))
theorem pe_xmakeB {x : Str} {p pos : Pos} {e : Expr} {es : List Expr} {t : TA} {C NE : Addr} (M : XMk X.K C NE) (hin : PySem.W.findIn X.K (.ref C) "__init__" = some (some (.builtin "ValueError.__init__")))
    (hg : Gl X x) (hm : X.mg x = some (.ref C)) (ha : PA X (e :: es) t)
    (hdb : (x == ("__debug__" : Str)) = false := by decide) (he : starEach (e :: es) X.env = (false, eval e X.env) :: starEach es X.env := by rfl) (hpl : (backTo pos (starEach es X.env)).any (·.1) = false := by rfl) :
    PE X (.Call (.Name x p) (e :: es) [] pos) (tXMakeB C t) := by
  intro pins s σ H Q I h
  refine wpAny_Call_Name_kw (ld_glob I hg hm ?_ hdb)
  refine PySem.W.callWith_K (h₀ := X.base) I.ok.mod.kin M.kp (thn (ha pos pins s σ H _ I h) fun us s1 ⟨vs, H1, I1, r, few, q⟩ => ⟨I1.kIn, ?_⟩) he hpl
  have few' : us.length ≤ sizeLine := by rw [← r.length]; exact few
  have hq := q (s1.heap.objs.size + 1) (I1.hok.fresh (Nat.le_succ _))
  obtain ⟨hh, g, dd, tk, os⟩ := s1
  refine XE.xmakeB PySem.F.excBase_ValueError (M.xc _ I1.kIn) (PySem.W.looks_findIn I1.kIn hin) few' fun g' p kp ne => ?_
  exact ⟨.ref (hh.objs.size + 1), _, I1.laid (t' := tk) kp (Nat.le_succ _) (xo_ok ⟨_, _, ne, rfl, rfl, rfl, fun _ => ⟨_, rfl⟩⟩), rfl, hq⟩
theorem xo_inst' {pins : List (Addr × Obj)} {σ : St} {H : Hp} {s : Shared} {e C : Addr} {d : Option Addr} {fr : Bool} (I : Inv X pins σ H s) (eo : H e = some (XO e C d fr)) (ed : ∀ dx, d = some dx → ∃ fs, H dx = some (.xd fs)) :
    ∃ (ox : Obj) (od : Option Obj), PySem.W.InstAt s.heap e ox C od := by
  cases d with
  | some dx =>
    obtain ⟨fs, q⟩ := ed dx rfl
    obtain ⟨ox, od, _, J, _⟩ := xo_inst I eo q
    exact ⟨ox, some od, J⟩
  | none =>
    have xo : XOk e C none fr s.heap := (I.hok e _ eo).1
    obtain ⟨ob, vs, g1, g2, g3, g4, g5⟩ := xo
    refine ⟨ob, none, g1, g2, ?_, by rw [g3]; trivial⟩
    obtain ⟨_, _, dt, _⟩ := ob
    dsimp only at g4
    subst g4
    rfl
noncomputable def rIsX0 (K : PySem.W.Frag) : List V → Hp → VK → Prop := fun xs H Q => ∃ e C NE d fr c b, xs = [.ref e, c] ∧ ((∃ a, c = .ref a) ∨ ∃ n, c = .ty n) ∧ H e = some (XO e C d fr) ∧ (∀ dx, d = some dx → ∃ fs, H dx = some (.xd fs)) ∧ XE.XKl K C NE ∧ PySem.W.kitOne K (.ref C) (clsV c) = some b ∧ Q (.bl b) H
theorem call_isinstX0 : CallR X (.builtin "isinstance") (rIsX0 X.K) := by
  intro pins s σ H xs us Q I r h
  obtain ⟨e, C, NE, d, fr, c, b, ex, hc, eo, ed, k, kt, q⟩ := h
  subst ex
  obtain ⟨u1, u2, eu, r1, r2⟩ := vals2 r
  subst eu
  cases (show u1 = Value.ref e from r1)
  have e2 : u2 = clsV c := by
    rcases hc with ⟨a, rfl⟩ | ⟨n, rfl⟩ <;> exact r2
  subst e2
  obtain ⟨ox, od, J⟩ := xo_inst' I eo ed
  exact PySem.W.kia_one (XE.xkit' k) I.kIn J kt (fun z => nomatch z) fun tk => ⟨.bl b, H, I.tok tk, rfl, q⟩
end
section
variable {P : Program} {w : World} {K : PySem.W.Frag} {mg : Str → Option Value} {base : Heap} {N : List Str} {qual : Str} {scope : Scope} {f : Addr} {cd : Value} {A : Around} {outer : List Env} {s : Shared} {H : Hp} {E : XK}
theorem pass_on : Passes (CX1 P w) (cxOf (CX1 P w) P w K mg base N qual scope f cd A outer s H E) E := by
  intro pins σ H1 s1 ev s2 I z
  obtain ⟨e, C, T, d, H2, rfl, os2, bare2, un2, hok2, eo, nT, nT2, tr, q⟩ := z
  have I2 : Inv (cxOf (CX1 P w) P w K mg base N qual scope f cd A outer s H E) pins σ H2 s2 := I.call' (ch := []) os2 un2 hok2 bare2 (fun b z => absurd z (by simp))
  have xo : XOk e C d false s2.heap := (hok2 e _ eo).1
  have hL : s.heap.get? s.heap.objs.size = none := Heap.get?_none_of_le (Nat.le_refl _)
  have down : ∀ T', s2.heap.get? T' = none → s.heap.get? T' = none := fun T' n => by
    cases q : s.heap.get? T' with
    | none => rfl
    | some ob =>
      obtain ⟨o', z⟩ := I2.base.there T' ob q (fun z => absurd (show T' ∈ ([] : List Addr) from z) (by simp))
      rw [n] at z; cases z
  have nTs : s.heap.get? T = none := by
    cases q : s.heap.get? T with
    | none => rfl
    | some ob =>
      obtain ⟨o', z⟩ := I.base.there T ob q (fun z => absurd (show T ∈ ([] : List Addr) from z) (by simp))
      rw [nT] at z; cases z
  refine XE.xleave_on (base := base) I2.ok.frames I2.stack rfl tr fun h' T' xl tr' new => ?_
  refine ⟨e, C, T', d, H2, rfl, I2.os, I2.bare, Un.exc (L := s.heap.objs.size) (Ts := [T]) I2.base eo eo (fun _ _ => rfl) xl hL (by simpa using nTs), ?_, eo, down T' new, hok2.nothere new, tr', q⟩
  exact HOk.exc (Ts := [T]) hok2 eo eo (xo_ok (xo_exc xo xl ⟨T', tr'⟩)) (fun _ _ => rfl) xl (fun b hb => I2.stkFree b hb) (by simpa using nT2)
end
section
variable {X : Cx}
noncomputable def XP (X : Cx) (pins : List (Addr × Obj)) (σ : St) (E : XK) (ev : Value) (s' : Shared) : Prop := ∃ H1 s1, Inv X pins σ H1 s1 ∧ CX1 X.prog X.w X.stack H1 s1 E ev s'
noncomputable def PX (X : Cx) (st : List Stmt) (t : XK → TS) : Prop :=
  ∀ (pins : List (Addr × Obj)) (s : Shared) (σ : St) (H : Hp) (D : Ends) (E : XK), Inv X pins σ H s → t E D σ H → wpAny (model X.prog X.w) X.A (execs st X.env) (SP X pins D) (XP X pins σ E) s
noncomputable def xCall (sp : Sp) (t : TA) : XK → TS := fun E D σ H => t σ H fun vs H1 => sp vs H1 (fun _ H2 => D.nx σ H2) E
theorem px_call {fn : Str} {a1 : Expr} {args : List Expr} {np cpos epos : Pos} {f : Addr} {fd : FuncData} {ps : List Str} {k : Nat} {sp : Sp} {t : TA}
    (F : FnOk X.prog X.w X.K X.mg X.base (CX1 X.prog X.w) k f fd ps sp) (hr : Room k X.A) (hg : Gl X fn) (hm : X.mg fn = some (.ref f)) (hk : PySem.W.keepIn X.K (.ref f) = true) (hb : Binds X.K fd ps []) (ha : PA X.nox (a1 :: args) t)
    (hdb : (fn == ("__debug__" : Str)) = false := by decide) (he : starEach (a1 :: args) X.env = (false, eval a1 X.env) :: starEach args X.env := by rfl) (hpl : (backTo cpos (starEach args X.env)).any (·.1) = false := by rfl)
    (hs : swapsWith (.Call (.Name fn np) (a1 :: args) [] cpos) none epos.line X.env = pure false := by rfl) :
    PX X [.Expr (.Call (.Name fn np) (a1 :: args) [] cpos) epos] (xCall sp t) := by
  intro pins s σ H D E I h
  refine wpAny_execs_cons (wpAny_Expr_any ?_ I.quiet hs)
  refine wpAny_Call_Name_kw (ld_glob I hg hm ?_ hdb)
  refine PySem.W.callWith_K (h₀ := X.base) I.ok.mod.kin hk (wpAny_mono (ha cpos pins s σ H _ (I.wish _) h) (fun us s1 z => ?_) fun _ _ z => z.elim) he hpl
  obtain ⟨vs, H1, I1', r, q⟩ := z
  have I1 : Inv X pins σ H1 s1 := I1'.unwish
  refine ⟨I1.kIn, ?_⟩
  have hlen : (us ++ []).length = ps.length := by rw [List.append_nil, ← r.length]; exact F.len _ _ _ _ q
  have hbb := hb s1 us I1.kIn hlen
  rw [List.append_nil] at hbb
  refine wpAny_call (codeAny_mono (F.run X.A X.stack s1 H1 ⟨us, []⟩ us vs _ _ hr I1.env0 hbb r q) fun rr s2 z => ?_)
  cases rr with
  | ok fl =>
    cases fl with
    | ret u =>
      obtain ⟨v, H2, I2, rv, q2⟩ := I1.after z
      exact wpAny_execs_nil ⟨σ, H2, I2, q2⟩
    | next => exact False.elim z
    | brk => exact False.elim z
    | cont => exact False.elim z
  | error ev => exact ⟨H1, s1, I1, z⟩
noncomputable def xIf (tc : TT) (t u : XK → TS) : XK → TS := fun E D σ H => tc σ H fun b H1 => if b = true then t E D σ H1 else u E D σ H1
theorem px_if {c : Expr} {a b : List Stmt} {tc : TT} {pos : Pos} {t u : XK → TS} (hc : PT X.nox c tc) (ha : PX X a t) (hb : PX X b u) : PX X [.If c a b pos] (xIf tc t u) := by
  intro pins s σ H D E I h
  refine wpAny_execs_cons (wpAny_If (wpAny_mono (hc pins s σ H _ (I.wish _) h) (fun d s1 z => ?_) fun _ _ z => z.elim))
  obtain ⟨H1, I1', q1⟩ := z
  have I1 : Inv X pins σ H1 s1 := I1'.unwish
  have fin : ∀ fl s2, SP X pins D fl s2 → (match fl with | .next => wpAny (model X.prog X.w) X.A (execs [] X.env) (SP X pins D) (XP X pins σ E) s2 | fl => SP X pins D fl s2) := fun fl s2 z => by
    cases fl with
    | next => exact wpAny_execs_nil z
    | ret u => exact z
    | brk => exact z
    | cont => exact z
  cases d with
  | true => exact thn (ha pins s1 σ H1 D E I1 q1) fun fl s2 z => by first | exact fin fl s2 z | (cases fl <;> first | exact wpAny_execs_nil z | exact z)
  | false => exact thn (hb pins s1 σ H1 D E I1 q1) fun fl s2 z => by first | exact fin fl s2 z | (cases fl <;> first | exact wpAny_execs_nil z | exact z)
noncomputable def tTryX (K : PySem.W.Frag) (NE : Addr) (i : Nat) (tb : XK → TS) (tsu : TS) : TS := fun D σ H =>
  tb (fun cls ea H2 => ∃ e, ea = some e ∧ PySem.W.exmOne K cls (.ref NE) = some true ∧ tsu { nx := fun σ' H' => D.nx (σ'.set i none) H', rt := fun _ _ => False } (σ.set i (some (.ref e))) H2)
    { nx := D.nx, rt := fun _ _ => False } σ H
theorem ps_tryX {cn n : Str} {body : List Stmt} {st : Stmt} {suite : List Stmt} {cp hpos pos : Pos} {NE : Addr} {i : Nat} {tb : XK → TS} {tsu : TS} (hb : PX X body tb)
    (hgc : Gl X cn) (hmc : X.mg cn = some (.ref NE)) (hN : X.N.Nodup) (hi : X.N[i]? = some n) (hl : X.env.kindOf n = some .local) (hsu : ∀ e, PSs (X.marked e) (st :: suite) tsu) (hc : X.calm = true)
    (hst : X.stack = X.env :: X.outer := by rfl) (hfr : X.env.frame = some X.env.locals := by rfl) (hf : X.fn n = true ∨ X.env.scope.names.lookup n = some .local := by first | exact .inl rfl | exact .inr rfl)
    (hdc : (cn == ("__debug__" : Str)) = false := by decide) :
    PS X (.Try body [.ExceptHandler (some (.Name cn cp)) (some n) (st :: suite) hpos] [] [] pos) (tTryX X.K NE i tb tsu) := by
  intro pins s σ H D I h
  refine wpAny_Try_except (wpAny_mono (hb pins s σ H _ _ I h) (fun fl s2 z => ?_) fun ev s2 z => ?_)
  · cases fl with
    | next => exact wpAny_execs_nil z
    | ret u => obtain ⟨_, _, _, _, _, q6⟩ := z; exact False.elim q6
    | brk => obtain ⟨_, _, _, q6⟩ := z; exact False.elim q6
    | cont => obtain ⟨_, _, _, q6⟩ := z; exact False.elim q6
  · obtain ⟨H1, s1, I1, e, C, T, d, H2, rfl, os2, bare2, un2, hok2, eo, nT, nT2, tr, e', ee, hx, q3⟩ := z
    cases ee
    have fr1 : ∀ b ∈ frs X.stack, H1 b = none := I1.stkFree
    have fr2 : ∀ b ∈ frs X.stack, H2 b = none := fun b hb => by
      obtain ⟨_, o, ho, _⟩ := I1.stack.mem hb
      exact un2.free b o ho (fr1 b hb) (by simp)
    have ff : s2.heap.FunFrames X.base (X.env :: X.outer) := by
      rw [← hst]
      exact ff_of I1.stack fun b hb o ho => un2.slot b o ho (fr1 b hb) hb (by simp)
    refine XE.xlook (s := s2) (base := X.base) (by rw [I1.ok.frames, hst]) ff hfr tr fun h3 T3 xl3 tr3 new3 => ?_
    have xl3' : XE.XL (frs X.stack) e [T] s2.heap h3 := by rw [hst]; exact xl3
    obtain ⟨un3, hok3⟩ := exc_on (T := T) I1 hst os2 bare2 un2 hok2 eo (by simpa using nT) (by simpa using nT2) xl3' tr3 fr2
    have I3 : Inv X pins σ H2 { s2 with heap := h3 } := I1.call' (ch := []) os2 un3 hok3 bare2 (fun b z => absurd z (by simp))
    have nT3 : s1.heap.get? T3 = none := by
      cases qq : s1.heap.get? T3 with
      | none => rfl
      | some ob =>
        obtain ⟨o', z⟩ := un2.there T3 ob qq (by simp)
        rw [new3] at z; cases z
    have nT3' : H2 T3 = none := hok2.nothere new3
    have hce : ∃ oe, h3.get? e = some oe ∧ oe.cls = .ref C := by
      obtain ⟨o, vs', g1, g2, _⟩ := ((hok3 e _ eo).1 : XOk e C d false h3)
      exact ⟨o, g1, g2⟩
    have LT : PySem.W.Looks (model X.prog X.w) h3 (typeOf (.ref e)) (.ref C) := by
      obtain ⟨oe, g1, g2⟩ := hce
      rw [← g2]
      exact (PySem.W.Looks.ld g1).andThen .now
    refine wpAny_handleBy_cons (codeAny_handlers_test (ld_glob (X := X.marked e) (I3.mark e) hgc hmc ?_ hdc)) (by intro z; cases z)
    refine PySem.W.Looks.here (s := { s2 with heap := h3 }) (PySem.W.exm_one I3.kIn LT hx) (codeAny_handlers_suite_as ?_)
    refine XE.xagain (s := { s2 with heap := h3 }) (fs := frs X.stack) tr3 fun h4 xl4 tr4 => ?_
    obtain ⟨un4, hok4⟩ := exc_on (s1 := { s2 with heap := h3 }) (T := T3) I1 hst os2 bare2 un3 hok3 eo (by simpa using nT3) (by simpa using nT3') xl4 tr4 fr2
    have I4 : Inv X pins σ H2 { s2 with heap := h4 } := I1.call' (ch := []) os2 un4 hok4 bare2 (fun b z => absurd z (by simp))
    refine store_ok (X := X.marked e) (v := .ref e) (I4.mark e) hN hi (.inl hl) rfl (fun s5 I5 => ?_) hf
    refine wpAny_mono (hsu e pins s5 _ H2 _ I5 q3) (fun fl s6 z => ?_) fun _ _ z => z.elim
    cases fl with
    | next =>
      obtain ⟨σ6, H6, I6, q6⟩ := z
      exact gone_ok (I6.unmark I.ok.hd) hN hi hl fun s7 I7 => ⟨_, H6, I7, q6⟩
    | ret u => obtain ⟨_, _, _, _, _, q6⟩ := z; exact False.elim q6
    | brk => obtain ⟨_, _, _, q6⟩ := z; exact False.elim q6
    | cont => obtain ⟨_, _, _, q6⟩ := z; exact False.elim q6
end
end L2
set_option Elab.async false
set_option linter.all false
set_option maxRecDepth 100000
set_option maxHeartbeats 4000000
namespace L2
open PySem PySem.Spec PyProof.Rows
section
variable {X : Cx}
theorem strs_back : ∀ {ys : List Str} {us : List Value}, StrsAre us ys → Vals (ys.map V.str) us
  | _, _, .nil => .nil
  | _, _, .cons x t h => .cons ⟨t, rfl⟩ (strs_back h)
noncomputable def rSorted : List V → Hp → VK → Prop := fun xs H Q => ∃ (l : Addr) (ss : List Str), xs = [.ref l] ∧ H l = some (.lst (ss.map V.str)) ∧ ss.length < 64 ∧ ∀ p ss', H p = none → ss'.Perm ss → sortedS ss' = true → Q (.ref p) (upd H p (.lst (ss'.map V.str)))
theorem call_sorted : CallR X (.builtin "sorted") rSorted := by
  intro pins s σ H xs us Q I r h
  obtain ⟨l, ss, rfl, hH, hz, q⟩ := h
  obtain ⟨u, rfl, ru⟩ := vals1 r
  cases ru
  obtain ⟨z, its, n, r, hl, e⟩ := I.lstM hH
  have sa := strsAre_of r
  rw [List.length_map] at hl z
  refine sorted_strs ⟨_, e, rfl, n, rfl⟩ sa (by omega) fun out ss' so pm st => ?_
  have vo := strs_back so
  have lo : ss'.length = ss.length := pm.length_eq
  obtain ⟨en, at'⟩ := sortedAll_at s.heap its out
  have hle : s.heap.objs.size ≤ s.heap.objs.size + 1 := Nat.le_succ _
  refine ⟨.ref (s.heap.objs.size + 1), _, I.laid (o := .lst (ss'.map V.str)) (t' := s.toks) (fun _ _ g => sortedAll_old g) hle ⟨by rw [List.length_map]; omega, out.toList, en, vo, at'⟩, rfl, q _ ss' (I.hok.fresh hle) pm st⟩
noncomputable def rIsXT (K : PySem.W.Frag) : List V → Hp → VK → Prop := fun xs H Q => ∃ (e C NE : Addr) (d : Option Addr) (fr : Bool) (t : Addr) (cs : List Addr) (b : Bool), xs = [.ref e, .ref t] ∧ H t = some (.tup (cs.map V.ref)) ∧ H e = some (XO e C d fr) ∧ (∀ dx, d = some dx → ∃ fs, H dx = some (.xd fs)) ∧ XE.XKl K C NE ∧ PySem.W.kitAny K (.ref C) (cs.map Value.ref) = some b ∧ Q (.bl b) H
theorem vals_refs : ∀ {cs : List Addr} {us : List Value}, Vals (cs.map V.ref) us → us = cs.map Value.ref
  | [], _, r => by
    rw [List.map_nil] at r; cases r; rfl
  | c :: cs, _, r => by
    rw [List.map_cons] at r
    cases r with
    | cons r1 r2 => rw [vals_refs r2, List.map_cons]; cases (show _ = Value.ref c from r1); rfl
theorem call_isinstXT : CallR X (.builtin "isinstance") (rIsXT X.K) := by
  intro pins s σ H xs us Q I r h
  obtain ⟨e, C, NE, d, fr, t, cs, b, ex, ht, eo, ed, k, kt, q⟩ := h
  subst ex
  obtain ⟨u1, u2, eu, r1, r2⟩ := vals2 r
  subst eu
  cases (show u1 = Value.ref e from r1)
  cases (show u2 = Value.ref t from r2)
  obtain ⟨ox, od, J⟩ := xo_inst' I eo ed
  obtain ⟨its, rv, it, _⟩ := I.tuple (SqT.of ht)
  obtain ⟨⟨_, _, _, _⟩, g, g2, n, g3⟩ := it
  dsimp only at g2 g3
  subst g2 g3
  rw [vals_refs rv] at g
  exact PySem.W.kia_tup (XE.xkit' k) I.kIn J g kt (fun z => nomatch z) fun tk => ⟨.bl b, H, I.tok tk, rfl, q⟩
end
end L2
set_option Elab.async false
set_option linter.all false
set_option maxRecDepth 100000
set_option maxHeartbeats 4000000
namespace K2
open PySem L2
local macro_rules | `(tactic| walk_at "vc") => `(tactic| first
  | (with_reducible refine s_seq ?_) | (with_reducible refine s_asg ?_) | (with_reducible refine s_name ?_) | (with_reducible refine s_drop ?_) | (with_reducible refine s_ret ?_) | (with_reducible refine s_if ?_) | (with_reducible refine s_sub ?_) | (with_reducible refine s_next ?_)
  | ((with_reducible refine' i_var ?hv ?_); (case hv => exact rfl)) | (with_reducible refine i_c ?_) | (with_reducible refine i_op ?_) | (with_reducible refine i_rI0 ?_) | (with_reducible refine i_test ?_) | (with_reducible refine i_tB ?_) | (with_reducible refine i_and ?_) | (with_reducible refine i_or ?_)
  | (with_reducible refine i_not ?_) | (with_reducible refine i_andV ?_) | (with_reducible refine i_orV ?_) | (with_reducible refine i_notV ?_) | (with_reducible refine i_ifE ?_) | (with_reducible refine i_nil ?_) | (with_reducible refine i_cons ?_) | (with_reducible refine i_call ?_) | (with_reducible refine i_cb ?_)
  | (with_reducible refine i_tup ?_) | (with_reducible refine i_lst ?_) | (with_reducible refine i_bm ?_) | (with_reducible refine i_sl ?_) | (with_reducible refine i_nopart ?_) | (with_reducible refine i_part ?_) | ((with_reducible show ∃ i, V.int _ = V.int i ∧ _); (refine ⟨_, rfl, ?_⟩)) | ((with_reducible show ∃ k, V.bl _ = V.bl k ∧ _); (refine ⟨_, rfl, ?_⟩)) | ((with_reducible show (∃ i, [V.bl _] = [V.int i] ∧ _) ∨ _); (refine Or.inr ⟨_, rfl, ?_⟩))
  | (with_reducible refine s_for ?_) | (with_reducible refine s_rng1 ?_) | (with_reducible refine s_list ?_) | (with_reducible refine s_str ?_) | (with_reducible refine s_strI ?_) | (with_reducible refine iteF ?_) | (with_reducible refine iteT ?_)
  | ((with_reducible refine' i_ixL ?ha ?hb ?_); (case ha => exact SqL.of (by assumption)); (case hb => exact rfl)) | ((with_reducible refine' i_ixT ?ha ?hb ?_); (case ha => assumption); (case hb => exact rfl))
  | ((with_reducible show ∃ p _, [V.ref _] = [V.ref p] ∧ (SqL _ _ _ _ ∨ SqT _ _ _ _) ∧ _); (refine' ⟨_, _, rfl, Or.inl (SqL.of ?ha), ?_⟩); (case ha => assumption)) | ((with_reducible refine' s_setL ?ha ?hb ?_); (case ha => assumption); (case hb => exact rfl))
  | ((with_reducible refine' i_eq ?ha ?_); (case ha => exact rfl)) | ((with_reducible refine' i_ne ?ha ?_); (case ha => exact rfl))
  | (with_reducible refine i_dget ?_) | (with_reducible refine i_yes ?_) | ((with_reducible show ∃ z, V.str _ = V.str z ∧ _); (refine ⟨_, rfl, ?_⟩))
  | (with_reducible refine i_un ?_) | (with_reducible refine i_rU ?_)
  | ((with_reducible refine' i_rI ?hv ?_); (case hv => first | decide | (dsimp only; omega) | exact .inl ⟨by omega, by omega⟩ | exact .inr ⟨by omega, by omega⟩ | exact ⟨by decide, by decide⟩ | exact ⟨by decide, by decide, by decide⟩ | exact ⟨by omega, by omega⟩))
  | ((with_reducible show ∃ i, [V.int _] = [V.int i] ∧ _); (refine ⟨_, rfl, ?_⟩))
  | ((with_reducible show tyV _ "list" _ _ ∧ _); (refine' ⟨i_tyL ?ha, ?_⟩); (case ha => assumption)))

theorem call_len_seqK {X : Cx} {K : PySem.W.Frag} (h : X.K = K) : CallR X (.builtin "len") (fun xs H Q => ∃ p ys, xs = [.ref p] ∧ (SqL K H p ys ∨ SqT K H p ys) ∧ Q (.int ys.length) H) := by subst h; exact call_len_seq
theorem erase_map {α β : Type} (f : α → β) : ∀ (xs : List α) (k : Nat), (xs.map f).eraseIdx k = (xs.eraseIdx k).map f
  | [], _ => rfl
  | _ :: _, 0 => rfl
  | x :: xs, k + 1 => by
    rw [List.map_cons, List.eraseIdx_cons_succ, List.eraseIdx_cons_succ, List.map_cons, erase_map f xs k]
theorem seq_join {A B : TS} {D : Ends} {σ : St} {H : Hp} (J : St → Hp → Prop) (h : ∀ (R : St → Hp → Prop), (∀ σ H, J σ H → R σ H) → A { D with nx := R } σ H) (hJ : ∀ σ H, J σ H → B D σ H) : tSeq A B D σ H := h (B D) hJ
theorem at_pick {ws : List Str} {r : Int} (h0 : 0 ≤ r) (h1 : r < ws.length) : ∃ n ∈ ws, atI (ws.map V.str) r = some (.str n) := by
  have hr : r.toNat < ws.length := by omega
  refine ⟨ws[r.toNat], List.getElem_mem hr, ?_⟩
  have e : r = ((r.toNat : Nat) : Int) := by omega
  have q := atI_nat (xs := ws.map V.str) (j := r.toNat) (v := .str ws[r.toNat]) (by rw [List.getElem?_map, List.getElem?_eq_getElem hr]; rfl)
  rw [← e] at q
  exact q
theorem se_tup {a : List Expr} {n : Nat} {p : Pos} {es : List Expr} {env : Env} : starEach (.Tuple a n p :: es) env = (false, eval (.Tuple a n p) env) :: starEach es env := by rfl
theorem se_lst {a : List Expr} {p : Pos} {es : List Expr} {env : Env} : starEach (.List a p :: es) env = (false, eval (.List a p) env) :: starEach es env := by rfl
theorem se_call {f : Expr} {a : List Expr} {k : List Keyword} {p : Pos} {es : List Expr} {env : Env} : starEach (.Call f a k p :: es) env = (false, eval (.Call f a k p) env) :: starEach es env := by rfl
theorem se_con {c : Const} {n : Nat} {p : Pos} {es : List Expr} {env : Env} : starEach (.Constant c n p :: es) env = (false, eval (.Constant c n p) env) :: starEach es env := by rfl
theorem se_name {x : Str} {p : Pos} {es : List Expr} {env : Env} : starEach (.Name x p :: es) env = (false, eval (.Name x p) env) :: starEach es env := by rfl
theorem se_bin {a b : Expr} {o : Operator} {p : Pos} {es : List Expr} {env : Env} : starEach (.BinOp a o b p :: es) env = (false, eval (.BinOp a o b p) env) :: starEach es env := by rfl
theorem se_dict {a : List (Option Expr)} {b : List Expr} {p : Pos} {es : List Expr} {env : Env} : starEach (.Dict a b p :: es) env = (false, eval (.Dict a b p) env) :: starEach es env := rfl
theorem se_sub {a b : Expr} {p : Pos} {es : List Expr} {env : Env} : starEach (.Subscript a b p :: es) env = (false, eval (.Subscript a b p) env) :: starEach es env := by rfl
noncomputable def spCell (K : PySem.W.Frag) : Sp := fun vs H Q _ => ∃ (s : Addr) (ns : List Int) (k : Nat), vs = [.ref s, .int (k : Int)] ∧ SqL K H s (ns.map V.int) ∧ k ≤ 100 ∧ ∀ (c : Int), Q (.int c) H
noncomputable def spStore : Sp := fun vs H Q _ => ∃ (c : Int), vs = [.int c] ∧ ∀ D H', Same H H' → H D.d = none → Dk.At D H' → Q (.ref D.d) H'
noncomputable def spNamesV : Sp := fun vs H Q _ => ∃ (D : Dk) (m : Nat), vs = [.ref D.d, .int (m : Int)] ∧ D.At H ∧ 1 ≤ m ∧ m ≤ 12 ∧ ∀ l (ns : List Str) H', ns.length = m → H' l = some (.lst (ns.map V.str)) → Kp D H H' → Q (.ref l) H'
section
variable {P : Program} {w : World} {K : PySem.W.Frag} {mg : Str → Option Value} {base : Heap} {TT : Addr}
theorem sc_law_cell : FnScope ["script", "k"] ["script", "k"] (defScope (top 34)) := ⟨rfl, rfl, rfl, by decide +kernel, rfl, by decide +kernel, by decide +kernel⟩
theorem ok_cell {f : Addr} {fd : FuncData} (Fu : Fun K "_law_cell" "_law_cell" (top 34) f fd) (T : Txt K mg TT) : FnOk P w K mg base CX0 1 f fd ["script", "k"] (spCell K) := by
  have S := sc_law_cell
  refine Fu.ok S (fun vs H Q E h => ?_) (fun cdv A outer s H vs Q E hr h => ?_)
  · obtain ⟨s, ns, k, rfl, _⟩ := h
    rfl
  · obtain ⟨s, ns, k, rfl, hS, k100, q⟩ := h
    refine ⟨_, (pss_cons (ps_if (pt_cmpR op_lt (pv 1) (pe_callB call_len_seq (by rfl) T.n_len PySem.boot_len (pa_cons (pv 0) pa_nil se_name)) (nomark _)) (pss_one (ps_ret (pe_ix ix_list (pv 0) (pv 1) (fun _ _ => rfl)))) pss_nil)
      (pss_one (ps_ret (pe_op op_add (pe_op op_add (pe_op op_mul (pe_op op_mul pe_int (pv 1)) (pv 1)) (pe_op op_mul pe_int (pv 1))) pe_int)))), ?_⟩
    try dsimp only [cxOf, Cx.nox, Cx.wish]
    rw [show L2.start ["script", "k"] [V.ref s, V.int (k : Int)] = [some (.ref s), some (.int (k : Int))] from rfl]
    repeat walk_at "vc"
    refine ⟨_, _, rfl, Or.inl hS, ?_⟩
    repeat walk_at "vc"
    rw [List.length_map]
    by_cases c : k < ns.length
    · refine ifT (decide_eq_true (by omega)) ?_
      repeat walk_at "vc"
      refine i_ixL (v := .int ns[k]) hS (atI_nat (by rw [List.getElem?_map, List.getElem?_eq_getElem c]; rfl)) ?_
      exact q _
    · refine ifF (decide_eq_false (by omega)) ?_
      repeat walk_at "vc"
      first
      | exact q _
      | (refine i_rI (.inl ⟨by omega, by omega⟩) ?_; repeat walk_at "vc"; exact q _)
theorem sc_law_store : FnScope ["cell", "great"] ["cell"] (defScope (top 35)) := ⟨rfl, rfl, rfl, by decide +kernel, rfl, by decide +kernel, by decide +kernel⟩
theorem ok_store {f : Addr} {fd : FuncData} (Fu : Fun K "_law_store" "_law_store" (top 35) f fd) (T : Txt K mg TT) : FnOk P w K mg base CX0 1 f fd ["cell"] spStore := by
  have S := sc_law_store
  refine Fu.ok S (fun vs H Q E h => ?_) (fun cdv A outer s H vs Q E hr h => ?_)
  · obtain ⟨c, rfl, _⟩ := h
    rfl
  · obtain ⟨c, rfl, q⟩ := h
    refine ⟨_, (pss_cons (ps_set (i := 1) S.nd rfl (by first | exact Or.inl rfl | exact Or.inr rfl) pe_int)
      (pss_cons (ps_if (pt_cmpR op_ge (pv 0) (pe_op op_pow pe_int pe_int) (nomark _)) (pss_one (ps_set (i := 1) S.nd rfl (by first | exact Or.inl rfl | exact Or.inr rfl) (pv 0))) pss_nil)
      (pss_one (ps_ret (pe_lst (pa_cons (pv 1) (pa_cons (pe_op op_mod (pv 0) pe_int) (pa_cons pe_int pa_nil se_con)) se_name)))))), ?_⟩
    try dsimp only [cxOf, Cx.nox, Cx.wish]
    rw [show L2.start ["cell", "great"] [V.int c] = [some (.int c), none] from rfl]
    have last : ∀ g : Int, tRet (tLst (tCons (tVar 1) (tCons (tOp (rI (fun x j => 0 < j) fun i j => V.int (i % j)) (tVar 0) (tC (V.int 2147483629))) (tCons (tC (V.int 1)) tNil)))) { nx := fun _ H' => Q .non H', rt := Q } [some (.int c), some (.int g)] H := fun g => by
      repeat walk_at "vc"
      refine ⟨by simp [sizeLine], fun p hp => ?_⟩
      exact q ⟨p⟩ _ (fresh_same hp) hp ⟨_, _, _, upd_same⟩
    repeat walk_at "vc"
    first | refine i_rI ⟨by decide, by decide, by decide⟩ ?_ | skip
    repeat walk_at "vc"
    refine ite2 (fun _ => ?_) (fun _ => ?_)
    · refine s_asg (i_var rfl (s_name ?_))
      exact last _
    · exact last _
theorem sc_law_take : FnScope ["store", "many", "told", "one"] ["store", "many"] (defScope (top 36)) := ⟨rfl, rfl, rfl, by decide +kernel, rfl, by decide +kernel, by decide +kernel⟩
theorem ok_take {f : Addr} {fd : FuncData} (Fu : Fun K "_law_take" "_law_take" (top 36) f fd) (T : Txt K mg TT) : FnOk P w K mg base CX0 1 f fd ["store", "many"] spDraw := by
  have S := sc_law_take
  refine Fu.ok S (fun vs H Q E h => ?_) (fun cdv A outer s H vs Q E hr h => ?_)
  · obtain ⟨D, m, rfl, _⟩ := h
    rfl
  · obtain ⟨D, m, rfl, DA, h1, h2, k⟩ := h
    refine ⟨_, (pss_cons (ps_if (pt_cmpR op_gt (pe_ix ix_list (pv 0) pe_int (fun _ _ => rfl)) pe_int (nomark _)) (pss_cons (ps_set (i := 2) S.nd rfl (by first | exact Or.inl rfl | exact Or.inr rfl) (pe_op op_mod (pe_ix ix_list (pv 0) pe_int (fun _ _ => rfl)) (pv 1)))
      (pss_cons (ps_asg (pe_op op_fdiv (pe_ix ix_list (pv 0) pe_int (fun _ _ => rfl)) (pv 1)) (pg_sub (pv 0) pe_int set_list))
      (pss_one (ps_ret (pv 2))))) pss_nil)
      (pss_cons (ps_asg (pe_op op_add (pe_ix ix_list (pv 0) pe_int (fun _ _ => rfl)) pe_int) (pg_sub (pv 0) pe_int set_list))
      (pss_cons (ps_set (i := 3) S.nd rfl (by first | exact Or.inl rfl | exact Or.inr rfl) (pe_op op_mod (pe_op op_mul (pe_op op_add (pe_ix ix_list (pv 0) pe_int (fun _ _ => rfl)) (pe_op op_mul pe_int (pe_ix ix_list (pv 0) pe_int (fun _ _ => rfl)))) pe_int) pe_int))
      (pss_cons (ps_set (i := 3) S.nd rfl (by first | exact Or.inl rfl | exact Or.inr rfl) (pe_op op_mod (pe_op op_mul (pv 3) (pv 3)) pe_int))
      (pss_cons (ps_set (i := 3) S.nd rfl (by first | exact Or.inl rfl | exact Or.inr rfl) (pe_op op_mod (pe_op op_mul (pe_op op_add (pv 3) (pe_op op_mul pe_int (pe_ix ix_list (pv 0) pe_int (fun _ _ => rfl)))) pe_int) pe_int))
      (pss_one (ps_ret (pe_op op_mod (pe_op op_fdiv (pv 3) pe_int) (pv 1))))))))), ?_⟩
    try dsimp only [cxOf, Cx.nox, Cx.wish]
    rw [show L2.start ["store", "many", "told", "one"] [.ref D.d, .int m] = [some (.ref D.d), some (.int m), none, none] from rfl]
    obtain ⟨a, b, c, hd⟩ := id DA
    repeat walk_at "vc"
    refine ite2 (fun _ => ?_) (fun _ => ?_)
    · repeat walk_at "vc"
      first | refine i_rI (show (0 : Int) < m by omega) ?_ | skip
      repeat walk_at "vc"
      first | refine i_rI ⟨by omega, by omega⟩ ?_ | skip
      repeat walk_at "vc"
      exact k _ _ (Int.emod_nonneg _ (by omega)) (Int.emod_lt_of_pos _ (by omega)) kp_mk
    · repeat walk_at "vc"
      have hd2 : upd H D.d (HO.lst ([V.int a, V.int b, V.int c].set (Int.toNat 2) (V.int (c + 1)))) D.d = some (.lst [.int a, .int b, .int (c + 1)]) := upd_same
      have kp : Kp D H (upd H D.d (HO.lst ([V.int a, V.int b, V.int c].set (Int.toNat 2) (V.int (c + 1))))) := kp_mk
      generalize upd H D.d (HO.lst ([V.int a, V.int b, V.int c].set (Int.toNat 2) (V.int (c + 1)))) = H1 at *
      repeat walk_at "vc"
      refine i_rI (show (0 : Int) < m by omega) ?_
      exact k _ _ (Int.emod_nonneg _ (by omega)) (Int.emod_lt_of_pos _ (by omega)) kp
theorem sc_law_names : FnScope ["store", "many", "spare"] ["store", "many"] (defScope (top 37)) := ⟨rfl, rfl, rfl, by decide +kernel, rfl, by decide +kernel, by decide +kernel⟩
theorem ok_namesV {f : Addr} {fd : FuncData} (Fu : Fun K "_law_names" "_law_names" (top 37) f fd) (T : Txt K mg TT) (f_law_take : Fn P w K mg base "_law_take" ["store", "many"] 1 spDraw) : FnOk P w K mg base CX0 2 f fd ["store", "many"] spNamesV := by
  have S := sc_law_names
  refine Fu.ok S (fun vs H Q E h => ?_) (fun cdv A outer s H vs Q E hr h => ?_)
  · obtain ⟨D, m, rfl, _⟩ := h
    rfl
  · obtain ⟨D, m, rfl, DA, m1, m12, k⟩ := h
    refine' ⟨?_, ?bb, ?_⟩
    case bb =>
      refine' pss_cons ?s1 ?r1
      case s1 =>
        refine' ps_set (i := 2) ?n ?r ?l ?e ?s ?f
        case n => exact S.nd
        case r => rfl
        case l => first | exact Or.inl rfl | exact Or.inr rfl
        case s => rfl
        case f => first | exact Or.inl rfl | exact Or.inr rfl
        case e =>
          with_reducible refine' pe_lst ?a3
          case a3 =>
            with_reducible refine' pa_cons ?e4 ?s4 se_con
            case e4 =>
              exact pe_str
            case s4 =>
              with_reducible refine' pa_cons ?e6 ?s6 se_con
              case e6 =>
                exact pe_str
              case s6 =>
                with_reducible refine' pa_cons ?e8 ?s8 se_con
                case e8 =>
                  exact pe_str
                case s8 =>
                  with_reducible refine' pa_cons ?e10 ?s10 se_con
                  case e10 =>
                    exact pe_str
                  case s10 =>
                    with_reducible refine' pa_cons ?e12 ?s12 se_con
                    case e12 =>
                      exact pe_str
                    case s12 =>
                      with_reducible refine' pa_cons ?e14 ?s14 se_con
                      case e14 =>
                        exact pe_str
                      case s14 =>
                        with_reducible refine' pa_cons ?e16 ?s16 se_con
                        case e16 =>
                          exact pe_str
                        case s16 =>
                          with_reducible refine' pa_cons ?e18 ?s18 se_con
                          case e18 =>
                            exact pe_str
                          case s18 =>
                            with_reducible refine' pa_cons ?e20 ?s20 se_con
                            case e20 =>
                              exact pe_str
                            case s20 =>
                              with_reducible refine' pa_cons ?e22 ?s22 se_con
                              case e22 =>
                                exact pe_str
                              case s22 =>
                                with_reducible refine' pa_cons ?e24 ?s24 se_con
                                case e24 =>
                                  exact pe_str
                                case s24 =>
                                  with_reducible refine' pa_cons ?e26 ?s26 se_con
                                  case e26 =>
                                    exact pe_str
                                  case s26 =>
                                    with_reducible refine' pa_cons ?e28 ?s28 se_con
                                    case e28 =>
                                      exact pe_str
                                    case s28 =>
                                      with_reducible refine' pa_cons ?e30 ?s30 se_con
                                      case e30 =>
                                        exact pe_str
                                      case s30 =>
                                        with_reducible refine' pa_cons ?e32 ?s32 se_con
                                        case e32 =>
                                          exact pe_str
                                        case s32 =>
                                          exact pa_nil
      case r1 =>
        with_reducible refine' pss_one ?s34
        case s34 =>
          exact (ps_ret (pe_lc (tgs := ["k"]) (cap := [("spare", 2), ("store", 0)]) rfl ⟨rfl, rfl, rfl, rfl, rfl, rfl⟩ (pi_range1 (by rfl) T.n_range (pa_cons (pv 1) pa_nil se_name)) (fun _ _ _ _ => (pg_name (i := 0) (show List.Nodup [("k" : Str), ("spare" : Str), ("store" : Str)] by decide +kernel) rfl (by first | exact Or.inl rfl | exact Or.inr rfl))) (fun _ _ _ _ => pifs_nil) (fun _ _ _ _ => (pe_bmK (K := K) rfl PySem.F.plainAttrs_list PySem.F.slot_list_pop PySem.F.type_list_pop mt_popAt (pv 1) (pa_cons (pe_fn f_law_take (hr.mono (by first | decide | omega)) (by rfl) (pa_cons (pv 2) (pa_cons (pe_callB (call_len_seqK (K := K) rfl) (by rfl) T.n_len PySem.boot_len (pa_cons (pv 1) pa_nil se_name)) pa_nil se_call) se_name)) pa_nil se_call)))))
    try dsimp only [cxOf, Cx.nox, Cx.wish]
    rw [show L2.start ["store", "many", "spare"] [.ref D.d, .int (m : Int)] = [some (.ref D.d), some (.int (m : Int)), none] from rfl]
    have big : 1000 < sizeLine := by decide
    repeat walk_at "vc"
    refine ⟨by simp [sizeLine], fun p hp => ?_⟩
    generalize hE : upd H p _ = H1
    obtain ⟨S1, q1⟩ := upd_pair hp hE
    clear hE
    have q1' : H1 p = some (.lst ((["a", "b", "c", "ab", "ba", "hold", "set", "x", "zzzzzzzz", "aa", "wire", "not", "and", "or", "q"] : List Str).map V.str)) := q1
    have kp1 : Kp D H H1 := Kp.of DA S1
    repeat walk_at "vc"
    refine i_comp ?_
    repeat walk_at "vc"
    refine ⟨by omega, by omega, fun L hL => ?_⟩
    rw [Int.toNat_natCast]
    have HL : H L = none := kp1.free hL
    have npL : p ≠ L := ne_of_none q1 hL
    refine comp_range (n := m) (fun n H' ys => Kp D H H' ∧ H' L = some (.lst ys) ∧ ∃ zs sp : List Str, ys = zs.map V.str ∧ zs.length = n ∧ H' p = some (.lst (sp.map V.str)) ∧ sp.length + n = 15) ⟨Kp.fresh DA HL kp1, upd_same, [], _, rfl, rfl, by rw [upd_ne npL]; exact q1', rfl⟩ (fun i H' ys pv => pv.2.1) (fun i H' ys hi pv => ?_) (fun H' ys pv => ?_)
    · obtain ⟨kp, hl, zs, sp, rfl, hz, hsp, ls⟩ := pv
      refine s_name ⟨by repeat' (first | exact trivial | refine ⟨rfl, ?_⟩), i_yes (iteT ?_)⟩
      refine i_bm (i_var rfl ?_)
      refine ⟨i_tyL hsp, ?_⟩
      repeat walk_at "vc"
      refine ⟨D, _, rfl, kp.dk, by rw [List.length_map]; omega, by rw [List.length_map]; omega, fun r H2 r0 r1 k2 => ?_⟩
      rw [List.length_map] at r1
      have hsp2 := k2.strs kp.dk hsp
      have hl2 := k2.strs kp.dk hl
      have kp2 := kp.trans k2
      have hjl : r.toNat < sp.length := by omega
      have ez : sp[r.toNat]? = some sp[r.toNat] := List.getElem?_eq_getElem hjl
      refine i_nil ?_
      refine ⟨p, sp.map V.str, r, r.toNat, .str sp[r.toNat], rfl, rfl, hsp2, by omega, by omega, ?_, by rw [List.getElem?_map, ez]; rfl, ?_⟩
      · have : ixN (sp.map V.str).length r = some r.toNat := by unfold ixN; rw [if_pos r0, List.length_map, if_pos r1]
        exact (ixN_seq this).1
      rw [erase_map]
      have le : (sp.eraseIdx r.toNat).length = sp.length - 1 := by rw [List.length_eraseIdx, if_pos hjl]
      refine NextC.mk (by rw [upd_ne npL.symm]; exact hl2) hi (by rw [List.length_map]; omega) ⟨Kp.fresh DA HL (Kp.fresh DA hp kp2), upd_same, zs ++ [sp[r.toNat]], sp.eraseIdx r.toNat, by rw [List.map_append]; rfl, by rw [List.length_append, hz]; rfl, by rw [upd_ne npL, upd_same], by omega⟩
    · obtain ⟨kp, hl, zs, sp, rfl, hz, _⟩ := pv
      exact k L zs H' hz hl kp
end
end K2
set_option Elab.async false
set_option linter.all false
set_option maxRecDepth 100000
set_option maxHeartbeats 1000000
namespace L2
open PySem PySem.Spec PyProof.Rows PySem.Calls
noncomputable def newIn (sl : Array (Option Value)) : Bool := sl.toList.length == 6 && sl.toList[4]? == some (some (.builtin "ValueError.__new__"))
theorem len_6 {A : Type} : ∀ {us : List A}, us.length = 6 → ∃ a0 a1 a2 a3 a4 a5, us = [a0, a1, a2, a3, a4, a5]
  | [], h => nomatch h
  | a0 :: us, h => by
    have h : us.length + 1 = 6 := h
    cases us with
    | nil => cases h
    | cons a1 us =>
      cases us with
      | nil => cases h
      | cons a2 us =>
        cases us with
        | nil => cases h
        | cons a3 us =>
          cases us with
          | nil => cases h
          | cons a4 us =>
            cases us with
            | nil => cases h
            | cons a5 us =>
              cases us with
              | nil => exact ⟨_, _, _, _, _, _, rfl⟩
              | cons a6 us => cases h
noncomputable def xcIn (K : PySem.W.Frag) (C NE : Addr) : Bool := match K.lookup C with
  | some ⟨.type "type", _, .cls cd, sl⟩ => newIn sl && cd.mro == .ref C :: .ref NE :: XE.vmro && !cd.hasDel
  | _ => false
noncomputable def strIn : Value → Bool
  | .str _ _ => true
  | _ => false
noncomputable def tailIn (K : PySem.W.Frag) (NE : Addr) : Bool := match K.lookup NE with
  | some ⟨_, _, .cls cd, _⟩ => (match K.lookup cd.ns with
    | some ⟨_, _, .dict es _, _⟩ => es.toList.all (fun e => strIn e.key) && (es.toList.find? fun e => e.key.isStr "__init__").isNone
    | _ => false)
  | _ => false
theorem tail_of {K : PySem.W.Frag} {NE : Addr} {h : Heap} (X : K.In h) (q : tailIn K NE = true) : OwnTail h XE.vmro (.ref NE :: XE.vmro) := by
  unfold tailIn at q
  split at q
  · rename_i c0 d0 cd sl ho
    split at q
    · rename_i c1 d1 es ep s1 hn
      rw [Bool.and_eq_true] at q
      obtain ⟨q1, q2⟩ := q
      refine .own (X _ _ ho) ⟨_, es, ep, X _ _ hn, rfl, fun e he => ?_, fun _ => rfl⟩ ?_ .base
      · have z := List.all_eq_true.mp q1 e (Array.mem_toList_iff.mpr he)
        cases hk : e.key with
        | str a b => exact ⟨a, b, rfl⟩
        | _ => rw [hk] at z; cases z
      · unfold nsFind findBy
        rw [← Array.find?_toList, Option.isNone_iff_eq_none.mp q2]
        rfl
    · cases q
  · cases q
theorem xc_of {K : PySem.W.Frag} {C NE : Addr} {h : Heap} (X : K.In h) (q : xcIn K C NE = true) (q2 : tailIn K NE = true) : XE.XC h C "ValueError" "ValueError.__new__" (.ref NE :: XE.vmro) XE.vmro := by
  refine ⟨?_, tail_of X q2⟩
  unfold xcIn at q
  split at q
  · rename_i dd cd sl ho
    simp only [Bool.and_eq_true, beq_iff_eq, Bool.not_eq_true'] at q
    obtain ⟨⟨hs, hm⟩, hdel⟩ := q
    obtain ⟨nm, bs, mro, ns, qn, hd, sn, sub, ab, col, del⟩ := cd
    dsimp only at hm hdel
    subst hm hdel
    unfold newIn at hs
    rw [Bool.and_eq_true, beq_iff_eq, beq_iff_eq] at hs
    obtain ⟨hs1, hs2⟩ := hs
    obtain ⟨l⟩ := sl
    obtain ⟨k0, k1, k2, k3, k4, k5, rfl⟩ := len_6 hs1
    obtain rfl : k4 = some (.builtin "ValueError.__new__") := Option.some.inj hs2
    exact ⟨nm, qn, ns, bs, hd, sn, sub, ab, col, dd, k0, k1, k2, k3, k5, X _ _ ho⟩
  · cases q
theorem xcIn_of {K : PySem.W.Frag} {C NE : Addr} {dd : Option Addr} {cd : ClassData} {sl : Array (Option Value)} (l : K.lookup C = some ⟨.type "type", dd, .cls cd, sl⟩) (q : (newIn sl && cd.mro == .ref C :: .ref NE :: XE.vmro && !cd.hasDel) = true) : xcIn K C NE = true := by
  unfold xcIn
  rw [l]
  exact q
theorem tailIn_of {K : PySem.W.Frag} {NE : Addr} {c0 c1 : Value} {d0 d1 : Option Addr} {cd : ClassData} {s0 s1 : Array (Option Value)} {es : Array DictEntry} {ep : Nat} (l : K.lookup NE = some ⟨c0, d0, .cls cd, s0⟩) (l2 : K.lookup cd.ns = some ⟨c1, d1, .dict es ep, s1⟩)
    (q : (es.toList.all (fun e => strIn e.key) && (es.toList.find? fun e => e.key.isStr "__init__").isNone) = true) : tailIn K NE = true := by
  unfold tailIn
  rw [l]
  dsimp only
  rw [l2]
  exact q
theorem kit_ref {K : PySem.W.Frag} {C D : Addr} {b : Bool} {cd : ClassData} (ne : (Value.ref C == Value.ref D) = false) (h1 : PySem.W.clsIn K D = some cd) (h2 : PySem.W.typeIn K (.ref D) = some (.type "type")) (h3 : PySem.W.subIn K (.ref C) (.ref D) = some b) : PySem.W.kitOne K (.ref C) (.ref D) = some b := by
  unfold PySem.W.kitOne PySem.W.kitCls
  rw [if_neg (by rw [ne]; decide)]
  dsimp only
  rw [h1, h2]
  exact h3
theorem kit_type {K : PySem.W.Frag} {C : Addr} {b : Bool} {T : String} (hm : PySem.W.kitMeta T = true) (h3 : PySem.W.subIn K (.ref C) (.type T) = some b) : PySem.W.kitOne K (.ref C) (.type T) = some b := by
  unfold PySem.W.kitOne PySem.W.kitCls
  rw [if_neg (by intro z; cases beq_iff_eq.mp z)]
  dsimp only
  rw [if_pos hm]
  exact h3
theorem exm_of {K : PySem.W.Frag} {C NE : Addr} {b : Bool} {cd : ClassData} (h0 : PySem.W.subIn K (.ref NE) (.type "BaseException") = some true) (h1 : PySem.W.clsIn K NE = some cd) (h2 : PySem.W.typeIn K (.ref NE) = some (.type "type")) (h3 : PySem.W.subIn K (.ref C) (.ref NE) = some b) :
    PySem.W.exmOne K (.ref C) (.ref NE) = some b := by
  unfold PySem.W.exmOne PySem.W.kitCls
  rw [h0, if_pos (by decide)]
  dsimp only
  rw [h1, h2]
  exact h3
theorem mr_of {K : PySem.W.Frag} {C NE : Addr} {cd : ClassData} (h1 : PySem.W.clsIn K C = some cd) (h2 : (cd.mro == .ref C :: .ref NE :: XE.vmro) = true) : ((PySem.W.clsIn K C).any fun cd => cd.mro == .ref C :: .ref NE :: XE.vmro) = true := by
  rw [h1]
  exact h2
theorem xmk_of {K : PySem.W.Frag} {C NE : Addr} (q : xcIn K C NE = true) (q2 : tailIn K NE = true) (kp : PySem.W.keepIn K (.ref C) = true) (kl : XE.XKl K C NE) : XMk K C NE := ⟨fun _ X => xc_of X q q2, kp, kl⟩
end L2
set_option Elab.async false
set_option linter.all false
set_option maxRecDepth 100000
set_option maxHeartbeats 4000000
namespace K2
open PySem L2
local macro_rules | `(tactic| walk_at "vc") => `(tactic| first
  | (with_reducible refine s_seq ?_) | (with_reducible refine s_asg ?_) | (with_reducible refine s_name ?_) | (with_reducible refine s_drop ?_) | (with_reducible refine s_ret ?_) | (with_reducible refine s_if ?_) | (with_reducible refine s_sub ?_) | (with_reducible refine s_next ?_)
  | ((with_reducible refine' i_var ?hv ?_); (case hv => exact rfl)) | (with_reducible refine i_c ?_) | (with_reducible refine i_op ?_) | (with_reducible refine i_rI0 ?_) | (with_reducible refine i_test ?_) | (with_reducible refine i_tB ?_) | (with_reducible refine i_and ?_) | (with_reducible refine i_or ?_)
  | (with_reducible refine i_not ?_) | (with_reducible refine i_andV ?_) | (with_reducible refine i_orV ?_) | (with_reducible refine i_notV ?_) | (with_reducible refine i_ifE ?_) | (with_reducible refine i_nil ?_) | (with_reducible refine i_cons ?_) | (with_reducible refine i_call ?_) | (with_reducible refine i_cb ?_)
  | (with_reducible refine i_tup ?_) | (with_reducible refine i_lst ?_) | (with_reducible refine i_bm ?_) | (with_reducible refine i_sl ?_) | (with_reducible refine i_nopart ?_) | (with_reducible refine i_part ?_) | ((with_reducible show ∃ i, V.int _ = V.int i ∧ _); (refine ⟨_, rfl, ?_⟩)) | ((with_reducible show ∃ k, V.bl _ = V.bl k ∧ _); (refine ⟨_, rfl, ?_⟩)) | ((with_reducible show (∃ i, [V.bl _] = [V.int i] ∧ _) ∨ _); (refine Or.inr ⟨_, rfl, ?_⟩))
  | (with_reducible refine s_for ?_) | (with_reducible refine s_rng1 ?_) | (with_reducible refine s_list ?_) | (with_reducible refine s_str ?_) | (with_reducible refine s_strI ?_) | (with_reducible refine iteF ?_) | (with_reducible refine iteT ?_)
  | ((with_reducible refine' i_ixL ?ha ?hb ?_); (case ha => exact SqL.of (by assumption)); (case hb => exact rfl)) | ((with_reducible refine' i_ixT ?ha ?hb ?_); (case ha => assumption); (case hb => exact rfl))
  | ((with_reducible show ∃ p _, [V.ref _] = [V.ref p] ∧ (SqL _ _ _ _ ∨ SqT _ _ _ _) ∧ _); (refine' ⟨_, _, rfl, Or.inl (SqL.of ?ha), ?_⟩); (case ha => assumption)) | ((with_reducible refine' s_setL ?ha ?hb ?_); (case ha => assumption); (case hb => exact rfl))
  | ((with_reducible refine' i_eq ?ha ?_); (case ha => exact rfl)) | ((with_reducible refine' i_ne ?ha ?_); (case ha => exact rfl))
  | (with_reducible refine i_dget ?_) | (with_reducible refine i_yes ?_) | ((with_reducible show ∃ z, V.str _ = V.str z ∧ _); (refine ⟨_, rfl, ?_⟩))
  | (with_reducible refine i_un ?_) | (with_reducible refine i_rU ?_)
  | ((with_reducible refine' i_rI ?hv ?_); (case hv => first | decide | (dsimp only; omega) | exact .inl ⟨by omega, by omega⟩ | exact .inr ⟨by omega, by omega⟩ | exact ⟨by decide, by decide⟩ | exact ⟨by decide, by decide, by decide⟩ | exact ⟨by omega, by omega⟩))
  | ((with_reducible show ∃ i, [V.int _] = [V.int i] ∧ _); (refine ⟨_, rfl, ?_⟩))
  | ((with_reducible show tyV _ "list" _ _ ∧ _); (refine' ⟨i_tyL ?ha, ?_⟩); (case ha => assumption)))

noncomputable def Raised0 (C : Addr) (H H' : Hp) (e : Addr) : Prop := Same H H' ∧ H' e = some (XO e C none false)
theorem i_xmakeB {C : Addr} {t : TA} {σ : St} {H : Hp} {Q : VK} (q : t σ H fun vs H1 => vs.length ≤ sizeLine ∧ ∀ x, H1 x = none → Q (.ref x) (upd H1 x (XO x C none true))) : tXMakeB C t σ H Q := q
structure Fn1 (P : Program) (w : World) (K : PySem.W.Frag) (mg : Str → Option Value) (base : Heap) (x : Str) (ps : List Str) (k : Nat) (sp : Sp) : Prop where
  ex : ∃ f fd, FnOk P w K mg base (CX1 P w) k f fd ps sp ∧ mg x = some (.ref f) ∧ PySem.W.keepIn K (.ref f) = true ∧ Binds K fd ps []
theorem kit_self0 {K : PySem.W.Frag} {C : Addr} : PySem.W.kitOne K (.ref C) (.ref C) = some true := by
  unfold PySem.W.kitOne
  rw [if_pos (by simp)]

section
variable {P : Program} {w : World} {K : PySem.W.Frag} {mg : Str → Option Value} {base : Heap} {TT : Addr}
theorem sc_is_row : FnScope ["thing", "many"] ["thing", "many"] (defScope (top 10)) := ⟨rfl, rfl, rfl, by decide +kernel, rfl, by decide +kernel, by decide +kernel⟩
theorem sc_is_standing : FnScope ["net", "thing"] ["net", "thing"] (defScope (top 13)) := ⟨rfl, rfl, rfl, by decide +kernel, rfl, by decide +kernel, by decide +kernel⟩
theorem sc_check_standing : FnScope ["net", "thing"] ["net", "thing"] (defScope (top 14)) := ⟨rfl, rfl, rfl, by decide +kernel, rfl, by decide +kernel, by decide +kernel⟩
theorem tyof_same {K : PySem.W.Frag} {H H' : Hp} {v : V} {t : Value} (h : TyOf K H v t) (S : Same H H') : TyOf K H' v t := by
  cases h with
  | non => exact .non
  | bl x => exact .bl x
  | int i => exact .int i
  | str x => exact .str x
  | flt x => exact .flt x
  | lst e => exact .lst (S _ _ e)
  | frz e => exact .frz (S _ _ e)
  | tup e => exact .tup (S _ _ e)
  | dK e => exact .dK (S _ _ e)
  | dT e => exact .dT (S _ _ e)
  | ins e cl ha hn htk hm => exact .ins (S _ _ e) cl ha hn htk hm
noncomputable def NoTxt (K : PySem.W.Frag) (H : Hp) (v : V) : Prop := ∃ t, TyOf K H v t ∧ PySem.W.kitOne K t (.type "str") = some false
theorem NoTxt.same {K : PySem.W.Frag} {H H' : Hp} {v : V} (h : NoTxt K H v) (S : Same H H') : NoTxt K H' v := let ⟨t, a, b⟩ := h; ⟨t, tyof_same a S, b⟩
noncomputable def BadT (K : PySem.W.Frag) (H : Hp) (n : Nat) (v : V) : Prop := NoTxt K H v ∨ ∃ z : Str, v = .str z ∧ z.length ≤ 1000 ∧ (z.length ≠ n ∨ ∃ j, j < z.length ∧ z.cps.getD j 0 ≠ 48 ∧ z.cps.getD j 0 ≠ 49)
theorem BadT.same {K : PySem.W.Frag} {H H' : Hp} {n : Nat} {v : V} (h : BadT K H n v) (S : Same H H') : BadT K H' n v := h.imp (·.same S) id
noncomputable def spRowB (K : PySem.W.Frag) : Sp := fun vs H Q _ => ∃ (v : V) (m : Nat), vs = [v, .int (m : Int)] ∧ m ≤ 40 ∧ BadT K H m v ∧ ∀ H', Same H H' → Q (.bl false) H'
noncomputable def inT (z : Str) (j : Nat) : Bool := PyProof.Rows.KTD.inKeys (⟨#[z.cps.getD j 0]⟩ : Str) [(("0" : Str), PyProof.Rows.KTD.Dat.flat (PyData.str "1")), ("1", .flat (.str "0"))]
theorem inT_no {z : Str} {j : Nat} (h0 : z.cps.getD j 0 ≠ 48) (h1 : z.cps.getD j 0 ≠ 49) : inT z j = false := by
  unfold inT
  generalize z.cps.getD j 0 = c at *
  have n0 : ¬ (⟨#[c]⟩ : Str) = ("0" : Str) := fun q => h0 (by
    have e : (⟨#[c]⟩ : Str) = ⟨#[48]⟩ := q.trans (by decide +kernel)
    injection e with e
    have := congrArg (fun a => a.getD 0 0) e
    simpa using this)
  have n1 : ¬ (⟨#[c]⟩ : Str) = ("1" : Str) := fun q => h1 (by
    have e : (⟨#[c]⟩ : Str) = ⟨#[49]⟩ := q.trans (by decide +kernel)
    injection e with e
    have := congrArg (fun a => a.getD 0 0) e
    simpa using this)
  unfold PyProof.Rows.KTD.inKeys
  first
  | (rw [if_neg n0]; unfold PyProof.Rows.KTD.inKeys; rw [if_neg n1]; rfl)
  | (simp only [PyProof.Rows.KTD.inKeys, decide_eq_false n0, decide_eq_false n1]; rfl)
  | (simp [PyProof.Rows.KTD.inKeys, n0, n1]; done)
theorem ok_rowB {f : Addr} {fd : FuncData} (Fu : Fun K "is_row" "is_row" (top 10) f fd) (T : Txt K mg TT) : FnOk P w K mg base CX0 1 f fd ["thing", "many"] (spRowB K) := by
  have S := sc_is_row
  refine Fu.ok S (fun vs H Q E h => ?_) (fun cdv A outer s H vs Q E hr h => ?_)
  · obtain ⟨z, n, rfl, _⟩ := h
    rfl
  · obtain ⟨v, m, rfl, hm, bad, k⟩ := h
    refine ⟨_, (pss_cons (ps_if (PW.pt (pw_or (pt_not (pt_val (pe_callB call_isinst (by rfl) T.n_isinstance PyProof.Rows.boot_isinstance (pa_cons (pv 0) (pa_cons (pe_bltn (v := .ty "str") (by rfl) T.n_str PyProof.Rows.boot_str rfl) pa_nil))))) (pw_or1 (pt_cmpR op_ne (pe_callB call_len_str (by rfl) T.n_len PySem.boot_len (pa_cons (pv 0) pa_nil)) (pv 1) (nomark _))))) (pss_one (ps_ret pe_bl)) pss_nil)
      (pss_one (ps_ret (pe_callB (call_all rfl) (by rfl) T.n_all PyProof.Rows.boot_all (pa_cons (pe_lc (tgs := ["sign"]) (cap := []) rfl ⟨rfl, rfl, rfl, rfl, rfl, rfl⟩ (pi_str (pv 0)) (fun _ _ _ _ => (pg_name (i := 0) (show List.Nodup [("sign" : Str)] by decide +kernel) rfl (by first | exact Or.inl rfl | exact Or.inr rfl))) (fun _ _ _ _ => pifs_nil) (fun _ _ _ _ => (pe_cmpR (op_in_tab T.tab) (pv 0) (pe_glob (v := .ref TT) (by rfl) T.tURNED rfl) rfl))) pa_nil))))), ?_⟩
    try dsimp only [cxOf, Cx.nox, Cx.wish]
    rw [show L2.start ["thing", "many"] [v, V.int (m : Int)] = [some v, some (.int (m : Int))] from rfl]
    repeat walk_at "vc"
    rcases bad with ⟨t, ty, kt⟩ | ⟨z, rfl, zl, hb⟩
    · refine ⟨_, _, _, _, rfl, ty, kt, ?_⟩
      refine ⟨_, rfl, iteT ?_⟩
      repeat walk_at "vc"
      exact k H (Same.refl _)
    refine ⟨_, _, _, _, rfl, TyOf.str z, kit_same "str", ?_⟩
    refine ⟨_, rfl, iteF ?_⟩
    have big : 1000 < sizeLine := by decide
    repeat walk_at "vc"
    refine ⟨_, rfl, (by omega), ?_⟩
    repeat walk_at "vc"
    refine ite2 (fun h => ?_) (fun h => ?_)
    · repeat walk_at "vc"
      exact k H (Same.refl _)
    have hz : z.length = m := by
      by_cases e : z.length = m
      · exact e
      · exfalso
        have ne : ¬ (V.int ((z.length : Nat) : Int)) = V.int (m : Int) := fun q => by injection q with q; omega
        simp [ne] at h
    obtain ⟨j, hj, h0, h1⟩ := hb.resolve_left fun n => n hz
    repeat walk_at "vc"
    refine i_comp ?_
    repeat walk_at "vc"
    intro D hD
    refine comp_itf (fun n H' ys => Same H H' ∧ H' D = some (.lst ys) ∧ ys = ((List.range n).map (inT z)).map V.bl) ⟨fresh_same hD, upd_same, rfl⟩ (fun n H' ys p => p.2.1) (fun n H' ys hn p => ?_) (fun H' ys p => ?_)
    · obtain ⟨Sm, hd, rfl⟩ := p
      refine s_name ⟨trivial, i_yes (iteT ?_)⟩
      refine i_op (i_var rfl (i_c ⟨_, rfl, rfl, ?_⟩))
      refine NextC.mk hd hn (by rw [List.length_map, List.length_map, List.length_range]; have : z.cps.size = z.length := rfl; omega) ⟨same_upd Sm hD, upd_same, ?_⟩
      rw [List.range_succ, List.map_append, List.map_append]
      rfl
    · obtain ⟨Sm, hd, rfl⟩ := p
      refine i_nil ⟨_, _, rfl, SqL.of hd, ?_⟩
      have e : ((List.range z.cps.size).map (inT z)).all id = false := by
        rw [List.all_eq_false]
        exact ⟨inT z j, List.mem_map.mpr ⟨j, List.mem_range.mpr hj, rfl⟩, by rw [inT_no h0 h1]; simp⟩
      rw [e]
      exact k H' Sm
noncomputable def spIsStB (K : PySem.W.Frag) : Sp := fun vs H Q _ => ∃ a li lg ins gvs gs v, vs = [.ref a, v] ∧ NAt H a li lg ins gvs gs ∧ NetOk ins gs ∧ BadT K H (wiresN ins gs).length v ∧ ∀ H', Same H H' → Q (.bl false) H'
theorem ok_isstB {f : Addr} {fd : FuncData} (Fu : Fun K "is_standing" "is_standing" (top 13) f fd) (T : Txt K mg TT) (f_is_row : Fn P w K mg base "is_row" ["thing", "many"] 1 (spRowB K)) : FnOk P w K mg base CX0 2 f fd ["net", "thing"] (spIsStB K) := by
  have S := sc_is_standing
  refine Fu.ok S (fun vs H Q E h => ?_) (fun cdv A outer s H vs Q E hr h => ?_)
  · obtain ⟨a, li, lg, ins, gvs, gs, z, rfl, _⟩ := h
    rfl
  · obtain ⟨a, li, lg, ins, gvs, gs, v, rfl, NA, ok, st, k⟩ := h
    obtain ⟨ha, hi, hg, gts⟩ := id NA
    refine ⟨_, (pss_one (ps_ret (pe_fn f_is_row (hr.mono (by first | decide | omega)) (by rfl) (pa_cons (pv 1) (pa_cons (pe_op op_add (pe_callB call_len_seq (by rfl) T.n_len PySem.boot_len (pa_cons (pe_ix ix_tup (pv 0) pe_int (fun _ _ => rfl)) pa_nil)) (pe_callB call_len_seq (by rfl) T.n_len PySem.boot_len (pa_cons (pe_ix ix_tup (pv 0) pe_int (fun _ _ => rfl)) pa_nil))) pa_nil))))), ?_⟩
    try dsimp only [cxOf, Cx.nox, Cx.wish]
    rw [show L2.start ["net", "thing"] [V.ref a, v] = [some (.ref a), some v] from rfl]
    have hz : (wiresN ins gs).length = ins.length + gs.length := by
      unfold wiresN
      rw [List.length_append, List.length_map]
    have lg := paired_len NA.gates
    have i4 := ok.i4
    have g7 := ok.g7
    repeat walk_at "vc"
    refine ⟨v, (wiresN ins gs).length, ?_, by omega, st, fun H' Sm => k H' Sm⟩
    rw [List.length_map, lg, hz]; rfl
structure ExcS (K : PySem.W.Frag) (mg : Str → Option Value) (C NE : Addr) : Prop where
  xm : XMk K C NE
  init : PySem.W.findIn K (.ref C) "__init__" = some (some (.builtin "ValueError.__init__"))
  m : mg "NoStanding" = some (.ref C)
noncomputable def spCheckB (K : PySem.W.Frag) (C : Addr) : Sp := fun vs H Q E => ∃ a li lg ins gvs gs v, vs = [.ref a, v] ∧ NAt H a li lg ins gvs gs ∧ NetOk ins gs ∧ BadT K H (wiresN ins gs).length v ∧ ∀ H' e, Raised0 C H H' e → E (.ref C) (some e) H'
theorem ok_checkB {f : Addr} {fd : FuncData} (Fu : Fun K "check_standing" "check_standing" (top 14) f fd) (T : Txt K mg TT) {C0 NE : Addr} (N0 : ExcS K mg C0 NE) (f_is_standing : Fn P w K mg base "is_standing" ["net", "thing"] 2 (spIsStB K)) : FnOk P w K mg base (CX1 P w) 3 f fd ["net", "thing"] (spCheckB K C0) := by
  have S := sc_check_standing
  obtain ⟨oc, od, kV, doc, pm, an, cdv, ct, osl, rfl, lk, hcd⟩ := Fu.ex
  refine fn_of lk hcd S (fun vs H Q E h => ?_) (fun A outer s H vs Q E hr h => ?_)
  · obtain ⟨a, li, lg, ins, gvs, gs, z, rfl, _⟩ := h
    rfl
  · obtain ⟨a, li, lg, ins, gvs, gs, v, rfl, NA, ok, st, k⟩ := h
    refine ⟨_, (pss_one (ps_if (pt_not (pt_val (pe_fn f_is_standing (hr.mono (by first | decide | omega)) (by rfl) (pa_cons (pv 0) (pa_cons (pv 1) pa_nil))))) (pss_one (ps_raise (R := fun e d H1 => E (.ref C0) (some e) (upd H1 e (XO e C0 d false))) N0.xm rfl (pe_xmakeB N0.xm N0.init (by rfl) N0.m (pa_cons pe_str pa_nil)) (fun _ _ _ _ _ _ I eo r => xleave_ok I eo r))) pss_nil)), ?_⟩
    try dsimp only [cxOf, Cx.nox, Cx.wish]
    rw [show L2.start ["net", "thing"] [V.ref a, v] = [some (.ref a), some v] from rfl]
    repeat walk_at "vc"
    refine ⟨a, li, lg, ins, gvs, gs, v, rfl, NA, ok, st, fun H' Sm => ⟨_, rfl, iteT ?_⟩⟩
    refine i_xmakeB (i_cons (i_c (i_nil ⟨by simp [sizeLine], fun x hx => ⟨x, none, rfl, upd_same, k _ x ⟨fun b o e => ?_, upd_same⟩⟩⟩)))
    have nbx : b ≠ x := fun z => by rw [z] at e; rw [Sm _ _ e] at hx; cases hx
    rw [upd_ne nbx, upd_ne nbx]
    exact Sm _ _ e
theorem pe_fnX {X : Cx} {x : Str} {ps : List Str} {k : Nat} {sp : Sp} {e : Expr} {es : List Expr} {t : TA} {E : XK} {p pos : Pos} (F : Fn1 X.prog X.w X.K X.mg X.base x ps k sp) (hr : Room k X.A) (hg : Gl X x) (hx : Passes (CX1 X.prog X.w) X E) (ha : PA X (e :: es) t)
    (hdb : (x == ("__debug__" : Str)) = false := by decide) (he : starEach (e :: es) X.env = (false, eval e X.env) :: starEach es X.env := by rfl) (hpl : (backTo pos (starEach es X.env)).any (·.1) = false := by rfl) :
    PE X (.Call (.Name x p) (e :: es) [] pos) (tCall sp [] E t) := by
  obtain ⟨f, fd, G, hm, hk, hb⟩ := F.ex
  exact pe_call G hr hg hm hk hb .nil hx ha hdb he hpl
end
set_option Elab.async false
set_option linter.all false
set_option maxRecDepth 100000
set_option maxHeartbeats 4000000

noncomputable def spRuleV (d : Nat) : Sp := fun vs H Q _ => ∃ (D : Dk) (l : Addr) (ns : List Str) (m : Nat), vs = [.ref D.d, .ref l, .int (m : Int)] ∧ D.At H ∧ H l = some (.lst (ns.map V.str)) ∧ 1 ≤ ns.length ∧ ns.length ≤ 1000 ∧ 1 ≤ m ∧ m ≤ d ∧ ∀ b H', Kp D H H' → Q (.ref b) H'
noncomputable def spHolder : Sp := fun vs H Q _ => ∃ v1 v2 v3, vs = [v1, v2, v3] ∧ ∀ b H', Same H H' → Q (.ref b) H'
noncomputable def spKnownR : Sp := fun vs H Q _ => ∃ (kd : Int) (l : Addr) (ns : List Str) (a i m : Nat), vs = [.int kd, .ref l, .int (a : Int), .int (i : Int)] ∧ H l = some (.lst (ns.map V.str)) ∧ ns.length = i + m ∧ a < m ∧ m ≤ 100 ∧ i ≤ 100 ∧ ∀ b H', Same H H' → Q (.ref b) H'
theorem cut_from {xs : List V} {a : Nat} (h : a ≤ xs.length) : cutV xs (some (a : Int)) none = xs.drop a := by
  unfold cutV
  rw [HT.sIx_nat, HT.sIx_none, Nat.min_eq_left h, List.take_of_length_le (by rw [List.length_drop]; omega)]
theorem cut_to {xs : List V} {a : Nat} (h : a ≤ xs.length) : cutV xs none (some (a : Int)) = xs.take a := by
  unfold cutV
  rw [HT.sIx_nat, HT.sIx_none, Nat.min_eq_left h]
  simp
theorem at_back {ws : List Str} (h : 1 ≤ ws.length) : ∃ n ∈ ws, atI (ws.map V.str) (-1) = some (.str n) := by
  have hl : ws.length - 1 < ws.length := by omega
  refine ⟨ws[ws.length - 1], List.getElem_mem hl, ?_⟩
  unfold atI ixN
  rw [if_neg (by decide), List.length_map, if_pos (by omega)]
  show (ws.map V.str)[((-1 : Int) + (ws.length : Int)).toNat]? = _
  rw [show ((-1 : Int) + (ws.length : Int)).toNat = ws.length - 1 by omega, List.getElem?_map, List.getElem?_eq_getElem hl]
  rfl
section
variable {P : Program} {w : World} {K : PySem.W.Frag} {mg : Str → Option Value} {base : Heap} {TT : Addr}
theorem fnok_false {k : Nat} {f : Addr} {fd : FuncData} {ps : List Str} {sp : Sp} (h : ∀ vs H Q E, sp vs H Q E → False) : FnOk P w K mg base CX0 k f fd ps sp :=
  ⟨fun vs H Q E q => (h vs H Q E q).elim, fun _ _ _ _ _ _ vs Q E _ _ _ _ q => (h _ _ _ _ q).elim⟩
theorem sc_law_rule : FnScope ["store", "names", "deep", "kind", "one"] ["store", "names", "deep"] (defScope (top 38)) := ⟨rfl, rfl, rfl, by decide +kernel, rfl, by decide +kernel, by decide +kernel⟩
theorem ok_ruleV {f : Addr} {fd : FuncData} (Fu : Fun K "_law_rule" "_law_rule" (top 38) f fd) (T : Txt K mg TT) (f_law_take : Fn P w K mg base "_law_take" ["store", "many"] 1 spDraw) (hm : mg "_law_rule" = some (.ref f)) (hk : PySem.W.keepIn K (.ref f) = true) (hb : Binds K fd ["store", "names", "deep"] []) : ∀ d, FnOk P w K mg base CX0 (d + 1) f fd ["store", "names", "deep"] (spRuleV d)
  | 0 => fnok_false fun vs H Q E ⟨D, l, ns, m, _, _, _, _, _, h1, h2, _⟩ => by omega
  | d + 1 => by
    have S := sc_law_rule
    have f_law_rule : Fn P w K mg base "_law_rule" ["store", "names", "deep"] (d + 1) (spRuleV d) := ⟨f, fd, ok_ruleV Fu T f_law_take hm hk hb d, hm, hk, hb⟩
    refine Fu.ok S (fun vs H Q E h => ?_) (fun cdv A outer s H vs Q E hr h => ?_)
    · obtain ⟨D, l, ns, m, rfl, _⟩ := h
      rfl
    · obtain ⟨D, l, ns, m, rfl, DA, hl, n1, few, m1, m2, k⟩ := h
      refine' ⟨?_, (pss_cons ?h0 (pss_cons (ps_if ?h1 (pss_one ?h2) pss_nil) (pss_cons ?h3 (pss_cons (ps_if ?h4 (pss_one ?h5) pss_nil) (pss_one ?h6))))), ?_⟩
      case h0 =>
        refine' ps_set (i := 3) ?n ?r ?l ?e ?s ?f
        case n => exact S.nd
        case r => rfl
        case l => first | exact Or.inl rfl | exact Or.inr rfl
        case s => rfl
        case f => first | exact Or.inl rfl | exact Or.inr rfl
        case e => exact (pe_fn f_law_take (hr.mono (by first | decide | omega)) (by rfl) (pa_cons (pv 0) (pa_cons pe_int pa_nil se_con) se_name))
      case h1 => exact (PW.pt (pw_or (pt_cmpR op_lt (pv 2) pe_int (nomark _)) (pw_or1 (pt_cmpR op_lt (pv 3) pe_int (nomark _)))))
      case h2 => exact (ps_ret (pe_tup (pa_cons pe_str (pa_cons (pe_ix ix_list (pv 1) (pe_fn f_law_take (hr.mono (by first | decide | omega)) (by rfl) (pa_cons (pv 0) (pa_cons (pe_callB call_len_seq (by rfl) T.n_len PySem.boot_len (pa_cons (pv 1) pa_nil se_name)) pa_nil se_call) se_name)) (fun _ _ => rfl)) pa_nil) se_con)))
      case h3 =>
        refine' ps_set (i := 4) ?n ?r ?l ?e ?s ?f
        case n => exact S.nd
        case r => rfl
        case l => first | exact Or.inl rfl | exact Or.inr rfl
        case s => rfl
        case f => first | exact Or.inl rfl | exact Or.inr rfl
        case e => exact (pe_fn f_law_rule (hr.mono (by first | decide | omega)) (by rfl) (pa_cons (pv 0) (pa_cons (pv 1) (pa_cons (pe_op op_sub (pv 2) pe_int) pa_nil) se_name) se_name))
      case h4 => exact (pt_cmpR op_lt (pv 3) pe_int (nomark _))
      case h5 => exact (ps_ret (pe_tup (pa_cons pe_str (pa_cons (pv 4) pa_nil se_name) se_con)))
      case h6 =>
        with_reducible refine' ps_ret ?e
        case e =>
          with_reducible refine' pe_tup ?a1
          case a1 =>
            with_reducible refine' pa_cons ?e2 ?s2 se_sub
            case e2 =>
              with_reducible refine' pe_ix ?r3 ?v3 ?b3 ?p3
              case r3 => exact ix_list
              case p3 => exact (fun _ _ => rfl)
              case v3 =>
                with_reducible refine' pe_lst ?a4
                case a4 =>
                  with_reducible refine' pa_cons ?e5 ?s5 se_con
                  case e5 =>
                    exact pe_str
                  case s5 =>
                    with_reducible refine' pa_cons ?e7 ?s7 se_con
                    case e7 =>
                      exact pe_str
                    case s7 =>
                      exact pa_nil
              case b3 =>
                exact (pe_op op_mod (pv 3) pe_int)
            case s2 =>
              with_reducible refine' pa_cons ?e10 ?s10 se_name
              case e10 =>
                exact (pv 4)
              case s10 =>
                with_reducible refine' pa_cons ?e12 ?s12 se_call
                case e12 =>
                  refine' pe_fn f_law_rule (hr.mono (by first | decide | omega)) (by rfl) ?a13
                  case a13 =>
                    with_reducible refine' pa_cons ?e14 ?s14 se_name
                    case e14 =>
                      exact (pv 0)
                    case s14 =>
                      with_reducible refine' pa_cons ?e16 ?s16 se_name
                      case e16 =>
                        exact (pv 1)
                      case s16 =>
                        with_reducible refine' pa_cons ?e18 ?s18 se_sub
                        case e18 =>
                          with_reducible refine' pe_ix ?r19 ?v19 ?b19 ?p19
                          case r19 => exact ix_list
                          case p19 => exact (fun _ _ => rfl)
                          case v19 =>
                            with_reducible refine' pe_lst ?a20
                            case a20 =>
                              with_reducible refine' pa_cons ?e21 ?s21 se_bin
                              case e21 =>
                                exact (pe_op op_sub (pv 2) pe_int)
                              case s21 =>
                                with_reducible refine' pa_cons ?e23 ?s23 se_con
                                case e23 =>
                                  exact pe_int
                                case s23 =>
                                  exact pa_nil
                          case b19 =>
                            exact (pe_callTy call_int1 (by rfl) T.n_int PyProof.Rows.boot_int (pa_cons (pe_cmpR op_gt (pv 2) pe_int (nomark _)) pa_nil))
                        case s18 =>
                          exact pa_nil
                case s12 =>
                  exact pa_nil
      try dsimp only [cxOf, Cx.nox, Cx.wish]
      rw [show L2.start ["store", "names", "deep", "kind", "one"] [V.ref D.d, V.ref l, V.int m] = [some (.ref D.d), some (.ref l), some (.int m), none, none] from rfl]
      repeat walk_at "vc"
      refine ⟨D, 8, rfl, DA, by decide, by decide, fun kind H1 k0 k8 kp1 => ?_⟩
      have hl1 := kp1.strs DA hl
      have leaf : tTup (tCons (tC (V.str "wire")) (tCons (tOp (rIxL K) (tVar 1) (tCall spDraw [] E0 (tCons (tVar 0) (tCons (tCB (fun xs H Q => ∃ p ys, xs = [V.ref p] ∧ (SqL K H p ys ∨ SqT K H p ys) ∧ Q (V.int ↑ys.length) H) (tCons (tVar 1) tNil)) tNil)))) tNil)) [some (.ref D.d), some (.ref l), some (.int m), some (.int kind), none] H1 Q := by
        repeat walk_at "vc"
        refine ⟨D, _, rfl, kp1.dk, by rw [List.length_map]; omega, by rw [List.length_map]; omega, fun r H2 r0 r1 kp2 => ?_⟩
        have hl2 := kp2.strs kp1.dk hl1
        rw [List.length_map] at r1
        obtain ⟨nm, _, en⟩ := at_pick (ws := ns) r0 r1
        refine i_ixL (SqL.of hl2) en ?_
        repeat walk_at "vc"
        refine ⟨by simp [sizeLine], fun p hp => ?_⟩
        exact k _ _ ((kp1.trans kp2).new hp)
      repeat walk_at "vc"
      by_cases c1 : m < 2
      · refine ifT (decide_eq_true (by omega)) ?_
        exact iteT leaf
      refine ifF (decide_eq_false (by omega)) ?_
      repeat walk_at "vc"
      refine ite2 (fun h2 => ?_) (fun h2 => ?_)
      · exact leaf
      repeat walk_at "vc"
      refine ⟨D, l, ns, m - 1, ?_, kp1.dk, hl1, n1, few, by omega, by omega, fun b1 H2 kp2 => ?_⟩
      · have : (m : Int) - 1 = ((m - 1 : Nat) : Int) := by omega
        rw [this]
      have hl2 := kp2.strs kp1.dk hl1
      have kp12 := kp1.trans kp2
      repeat walk_at "vc"
      refine ite2 (fun h3 => ?_) (fun h3 => ?_)
      · repeat walk_at "vc"
        refine ⟨by simp [sizeLine], fun p hp => ?_⟩
        exact k _ _ (kp12.new hp)
      repeat walk_at "vc"
      refine ⟨by simp [sizeLine], fun p hp => ?_⟩
      generalize hE : upd H2 p _ = H3
      obtain ⟨S3, q3⟩ := upd_pair hp hE
      clear hE
      have kp13 := kp12.trans (Kp.of kp12.dk S3)
      have hl3 := S3 _ _ hl2
      repeat walk_at "vc"
      obtain ⟨wd, ew⟩ : ∃ wd : Str, atI [V.str "and", V.str "or"] (kind % 2) = some (.str wd) := by
        have : kind % 2 = 0 ∨ kind % 2 = 1 := by omega
        rcases this with e | e
        · rw [e]; exact ⟨_, rfl⟩
        · rw [e]; exact ⟨_, rfl⟩
      refine i_ixL (SqL.of q3) ew ?_
      repeat walk_at "vc"
      refine ⟨by simp [sizeLine], fun p4 hp4 => ?_⟩
      generalize hE : upd H3 p4 _ = H4
      obtain ⟨S4, q4⟩ := upd_pair hp4 hE
      clear hE
      have kp14 := kp13.trans (Kp.of kp13.dk S4)
      repeat walk_at "vc"
      obtain ⟨m', em, m'1, m'2⟩ : ∃ m' : Nat, atI [V.int ((m : Int) - 1), V.int 1] (if decide ((5 : Int) < (m : Int)) = true then 1 else 0) = some (.int (m' : Int)) ∧ 1 ≤ m' ∧ m' ≤ d := by
        cases decide ((5 : Int) < (m : Int)) with
        | true => exact ⟨1, rfl, by omega, by omega⟩
        | false => exact ⟨m - 1, by rw [show ((m - 1 : Nat) : Int) = (m : Int) - 1 by omega]; rfl, by omega, by omega⟩
      refine i_ixL (SqL.of q4) em ?_
      repeat walk_at "vc"
      refine ⟨D, l, ns, m', rfl, kp14.dk, S4 _ _ hl3, n1, few, m'1, m'2, fun b5 H5 kp5 => ?_⟩
      repeat walk_at "vc"
      refine ⟨by simp [sizeLine], fun p6 hp6 => ?_⟩
      exact k _ _ ((kp14.trans kp5).new hp6)
theorem sc_law_holder : FnScope ["one", "other", "own"] ["one", "other", "own"] (defScope (top 39)) := ⟨rfl, rfl, rfl, by decide +kernel, rfl, by decide +kernel, by decide +kernel⟩
theorem ok_holder {f : Addr} {fd : FuncData} (Fu : Fun K "_law_holder" "_law_holder" (top 39) f fd) (T : Txt K mg TT) : FnOk P w K mg base CX0 1 f fd ["one", "other", "own"] spHolder := by
  have S := sc_law_holder
  refine Fu.ok S (fun vs H Q E h => ?_) (fun cdv A outer s H vs Q E hr h => ?_)
  · obtain ⟨v1, v2, v3, rfl, _⟩ := h
    rfl
  · obtain ⟨v1, v2, v3, rfl, k⟩ := h
    refine ⟨_, (pss_one (ps_ret (pe_tup (pa_cons pe_str (pa_cons (pe_tup (pa_cons pe_str (pa_cons (pv 0) (pa_cons (pv 1) pa_nil se_name) se_name) se_con)) (pa_cons (pe_tup (pa_cons pe_str (pa_cons (pv 2) (pa_cons (pe_tup (pa_cons pe_str (pa_cons (pv 0) (pa_cons (pv 1) pa_nil se_name) se_name) se_con)) pa_nil se_tup) se_name) se_con)) pa_nil se_tup) se_tup) se_con)))), ?_⟩
    try dsimp only [cxOf, Cx.nox, Cx.wish]
    rw [show L2.start ["one", "other", "own"] [v1, v2, v3] = [some v1, some v2, some v3] from rfl]
    repeat walk_at "vc"
    refine ⟨by simp [sizeLine], fun p1 hp1 => ?_⟩
    generalize hE : upd H p1 _ = H1
    obtain ⟨S1, _⟩ := upd_pair hp1 hE
    clear hE
    repeat walk_at "vc"
    refine ⟨by simp [sizeLine], fun p2 hp2 => ?_⟩
    generalize hE : upd H1 p2 _ = H2
    obtain ⟨S2, _⟩ := upd_pair hp2 hE
    clear hE
    repeat walk_at "vc"
    refine ⟨by simp [sizeLine], fun p3 hp3 => ?_⟩
    generalize hE : upd H2 p3 _ = H3
    obtain ⟨S3, _⟩ := upd_pair hp3 hE
    clear hE
    repeat walk_at "vc"
    refine ⟨by simp [sizeLine], fun p4 hp4 => ?_⟩
    exact k _ _ (S1.trans (S2.trans (S3.trans (fresh_same hp4))))
end
set_option Elab.async false
set_option linter.all false
set_option maxRecDepth 100000
set_option maxHeartbeats 4000000

section
variable {P : Program} {w : World} {K : PySem.W.Frag} {mg : Str → Option Value} {base : Heap} {TT : Addr}
theorem sc_law_known_rule : FnScope ["kind", "names", "at", "ins", "gates", "own", "ahead", "one", "after"] ["kind", "names", "at", "ins"] (defScope (top 40)) := ⟨rfl, rfl, rfl, by decide +kernel, rfl, by decide +kernel, by decide +kernel⟩
theorem ok_knownR {f : Addr} {fd : FuncData} (Fu : Fun K "_law_known_rule" "_law_known_rule" (top 40) f fd) (T : Txt K mg TT) (f_law_holder : Fn P w K mg base "_law_holder" ["one", "other", "own"] 1 spHolder) : FnOk P w K mg base CX0 2 f fd ["kind", "names", "at", "ins"] spKnownR := by
  have S := sc_law_known_rule
  refine Fu.ok S (fun vs H Q E h => ?_) (fun cdv A outer s H vs Q E hr h => ?_)
  · obtain ⟨kd, l, ns, a, i, m, rfl, _⟩ := h
    rfl
  · obtain ⟨kd, l, ns, a, i, m, rfl, hl, nl, am, m100, i100, k⟩ := h
    refine' ⟨?_, ?bb, ?_⟩
    case bb =>
      refine' pss_cons ?s1 ?r1
      case s1 =>
        refine' ps_set (i := 4) ?n ?r ?l ?e ?s ?f
        case n => exact S.nd
        case r => rfl
        case l => first | exact Or.inl rfl | exact Or.inr rfl
        case s => rfl
        case f => first | exact Or.inl rfl | exact Or.inr rfl
        case e => exact (pe_slice sl_list (pv 1) (po_some (pv 3)) po_none)
      case r1 =>
        with_reducible refine' pss_cons ?s3 ?r3
        case s3 =>
          refine' ps_set (i := 5) ?n ?r ?l ?e ?s ?f
          case n => exact S.nd
          case r => rfl
          case l => first | exact Or.inl rfl | exact Or.inr rfl
          case s => rfl
          case f => first | exact Or.inl rfl | exact Or.inr rfl
          case e => exact (pe_tup (pa_cons pe_str (pa_cons (pe_ix ix_list (pv 4) (pv 2) (fun _ _ => rfl)) pa_nil) se_con))
        case r3 =>
          with_reducible refine' pss_cons ?s5 ?r5
          case s5 =>
            refine' ps_set (i := 6) ?n ?r ?l ?e ?s ?f
            case n => exact S.nd
            case r => rfl
            case l => first | exact Or.inl rfl | exact Or.inr rfl
            case s => rfl
            case f => first | exact Or.inl rfl | exact Or.inr rfl
            case e => exact (pe_tup (pa_cons pe_str (pa_cons (pe_ix ix_list (pv 4) (pe_op op_sub (pv 2) pe_int) (fun _ _ => rfl)) pa_nil) se_con))
          case r5 =>
            with_reducible refine' pss_cons ?s7 ?r7
            case s7 =>
              refine' ps_set (i := 7) ?n ?r ?l ?e ?s ?f
              case n => exact S.nd
              case r => rfl
              case l => first | exact Or.inl rfl | exact Or.inr rfl
              case s => rfl
              case f => first | exact Or.inl rfl | exact Or.inr rfl
              case e => exact (pe_tup (pa_cons pe_str (pa_cons (pe_ix ix_list (pv 1) (pe_op op_mod (pv 2) (pe_callB call_len_seq (by rfl) T.n_len PySem.boot_len (pa_cons (pv 1) pa_nil se_name))) (fun _ _ => rfl)) pa_nil) se_con))
            case r7 =>
              with_reducible refine' pss_cons ?s9 ?r9
              case s9 =>
                refine' ps_set (i := 8) ?n ?r ?l ?e ?s ?f
                case n => exact S.nd
                case r => rfl
                case l => first | exact Or.inl rfl | exact Or.inr rfl
                case s => rfl
                case f => first | exact Or.inl rfl | exact Or.inr rfl
                case e => exact (pe_tup (pa_cons pe_str (pa_cons (pe_ix ix_list (pv 4) (pe_op op_mod (pe_op op_add (pv 2) pe_int) (pe_callB call_len_seq (by rfl) T.n_len PySem.boot_len (pa_cons (pv 4) pa_nil se_name))) (fun _ _ => rfl)) pa_nil) se_con))
              case r9 =>
                with_reducible refine' pss_cons ?s11 ?r11
                case s11 =>
                  with_reducible refine' ps_if ?c12 ?a12 ?o12
                  case c12 => exact (pt_cmpR op_eq (pv 0) pe_int (nomark _))
                  case a12 =>
                    with_reducible refine' pss_one ?s13
                    case s13 =>
                      exact (ps_ret (pe_tup (pa_cons pe_str (pa_cons (pv 6) pa_nil se_name) se_con)))
                  case o12 =>
                    exact pss_nil
                case r11 =>
                  with_reducible refine' pss_cons ?s15 ?r15
                  case s15 =>
                    with_reducible refine' ps_if ?c16 ?a16 ?o16
                    case c16 => exact (pt_cmpR op_eq (pv 0) pe_int (nomark _))
                    case a16 =>
                      with_reducible refine' pss_one ?s17
                      case s17 =>
                        with_reducible refine' ps_ret ?e
                        case e =>
                          with_reducible refine' pe_tup ?a19
                          case a19 =>
                            with_reducible refine' pa_cons ?e20 ?s20 se_con
                            case e20 =>
                              exact pe_str
                            case s20 =>
                              with_reducible refine' pa_cons ?e22 ?s22 se_tup
                              case e22 =>
                                with_reducible refine' pe_tup ?a23
                                case a23 =>
                                  with_reducible refine' pa_cons ?e24 ?s24 se_con
                                  case e24 =>
                                    exact pe_str
                                  case s24 =>
                                    with_reducible refine' pa_cons ?e26 ?s26 se_name
                                    case e26 =>
                                      exact (pv 6)
                                    case s26 =>
                                      with_reducible refine' pa_cons ?e28 ?s28 se_name
                                      case e28 =>
                                        exact (pv 7)
                                      case s28 =>
                                        exact pa_nil
                              case s22 =>
                                exact pa_nil
                    case o16 =>
                      exact pss_nil
                  case r15 =>
                    with_reducible refine' pss_cons ?s30 ?r30
                    case s30 =>
                      with_reducible refine' ps_if ?c31 ?a31 ?o31
                      case c31 => exact (pt_cmpR op_eq (pv 0) pe_int (nomark _))
                      case a31 =>
                        with_reducible refine' pss_one ?s32
                        case s32 =>
                          exact (ps_ret (pe_fn f_law_holder (hr.mono (by first | decide | omega)) (by rfl) (pa_cons (pv 7) (pa_cons (pv 6) (pa_cons (pv 5) pa_nil se_name) se_name) se_name)))
                      case o31 =>
                        exact pss_nil
                    case r30 =>
                      with_reducible refine' pss_one ?s34
                      case s34 =>
                        with_reducible refine' ps_ret ?e
                        case e =>
                          refine' pe_fn f_law_holder (hr.mono (by first | decide | omega)) (by rfl) ?a36
                          case a36 =>
                            with_reducible refine' pa_cons ?e37 ?s37 se_name
                            case e37 =>
                              exact (pv 6)
                            case s37 =>
                              with_reducible refine' pa_cons ?e39 ?s39 se_tup
                              case e39 =>
                                with_reducible refine' pe_tup ?a40
                                case a40 =>
                                  with_reducible refine' pa_cons ?e41 ?s41 se_con
                                  case e41 =>
                                    exact pe_str
                                  case s41 =>
                                    with_reducible refine' pa_cons ?e43 ?s43 se_name
                                    case e43 =>
                                      exact (pv 8)
                                    case s43 =>
                                      exact pa_nil
                              case s39 =>
                                with_reducible refine' pa_cons ?e45 ?s45 se_name
                                case e45 =>
                                  exact (pv 5)
                                case s45 =>
                                  exact pa_nil
    try dsimp only [cxOf, Cx.nox, Cx.wish]
    rw [show L2.start ["kind", "names", "at", "ins", "gates", "own", "ahead", "one", "after"] [V.int kd, V.ref l, V.int (a : Int), V.int (i : Int)] = [some (.int kd), some (.ref l), some (.int (a : Int)), some (.int (i : Int)), none, none, none, none, none] from rfl]
    repeat walk_at "vc"
    refine i_slL (SqL.of hl) fun pg hpg => ?_
    rw [cut_from (by rw [List.length_map]; omega), ← List.map_drop]
    generalize hE : upd H pg _ = H1
    obtain ⟨S1, q1⟩ := upd_pair hpg hE
    clear hE
    have dl : (ns.drop i).length = m := by rw [List.length_drop]; omega
    have hl1 := S1 _ _ hl
    generalize hds : ns.drop i = ds at *
    repeat walk_at "vc"
    obtain ⟨n2, _, e2⟩ := at_pick (ws := ds) (r := (a : Int)) (by omega) (by omega)
    refine i_ixL (SqL.of q1) e2 ?_
    repeat walk_at "vc"
    refine ⟨by simp [sizeLine], fun p2 hp2 => ?_⟩
    generalize hE : upd H1 p2 _ = H2
    obtain ⟨S2, q2⟩ := upd_pair hp2 hE
    clear hE
    repeat walk_at "vc"
    obtain ⟨n3, e3⟩ : ∃ n, atI (ds.map V.str) ((a : Int) - 1) = some (.str n) := by
      by_cases c : a = 0
      · subst c
        obtain ⟨n, _, e⟩ := at_back (ws := ds) (by omega)
        exact ⟨n, e⟩
      · obtain ⟨n, _, e⟩ := at_pick (ws := ds) (r := (a : Int) - 1) (by omega) (by omega)
        exact ⟨n, e⟩
    refine i_ixL (SqL.of (S2 _ _ q1)) e3 ?_
    repeat walk_at "vc"
    refine ⟨by simp [sizeLine], fun p3 hp3 => ?_⟩
    generalize hE : upd H2 p3 _ = H3
    obtain ⟨S3, q3⟩ := upd_pair hp3 hE
    clear hE
    have hl3 := (S2.trans S3) _ _ hl1
    have q13 := (S2.trans S3) _ _ q1
    repeat walk_at "vc"
    refine i_rI (show (0 : Int) < ((ns.map V.str).length : Nat) by rw [List.length_map]; omega) ?_
    rw [List.length_map]
    obtain ⟨n4, _, e4⟩ := at_pick (ws := ns) (r := (a : Int) % (ns.length : Int)) (Int.emod_nonneg _ (by omega)) (Int.emod_lt_of_pos _ (by omega))
    refine i_ixL (SqL.of hl3) e4 ?_
    repeat walk_at "vc"
    refine ⟨by simp [sizeLine], fun p4 hp4 => ?_⟩
    generalize hE : upd H3 p4 _ = H4
    obtain ⟨S4, q4⟩ := upd_pair hp4 hE
    clear hE
    have q14 := S4 _ _ q13
    repeat walk_at "vc"
    refine i_rI (show (0 : Int) < ((ds.map V.str).length : Nat) by rw [List.length_map]; omega) ?_
    rw [List.length_map]
    obtain ⟨n5, _, e5⟩ := at_pick (ws := ds) (r := ((a : Int) + 1) % (ds.length : Int)) (Int.emod_nonneg _ (by omega)) (Int.emod_lt_of_pos _ (by omega))
    refine i_ixL (SqL.of q14) e5 ?_
    repeat walk_at "vc"
    refine ⟨by simp [sizeLine], fun p5 hp5 => ?_⟩
    generalize hE : upd H4 p5 _ = H5
    obtain ⟨S5, q5⟩ := upd_pair hp5 hE
    clear hE
    have S05 := S1.trans (S2.trans (S3.trans (S4.trans S5)))
    clear q1 q2 q3 q4 q5 q13 q14 hl hl1 hl3
    repeat walk_at "vc"
    refine ite2 (fun _ => ?_) (fun _ => ?_)
    · repeat walk_at "vc"
      refine ⟨by simp [sizeLine], fun p6 hp6 => ?_⟩
      exact k _ _ (S05.trans (fresh_same hp6))
    repeat walk_at "vc"
    refine ite2 (fun _ => ?_) (fun _ => ?_)
    · repeat walk_at "vc"
      refine ⟨by simp [sizeLine], fun p6 hp6 => ?_⟩
      generalize hE : upd H5 p6 _ = H6
      obtain ⟨S6, _⟩ := upd_pair hp6 hE
      clear hE
      repeat walk_at "vc"
      refine ⟨by simp [sizeLine], fun p7 hp7 => ?_⟩
      exact k _ _ (S05.trans (S6.trans (fresh_same hp7)))
    repeat walk_at "vc"
    refine ite2 (fun _ => ?_) (fun _ => ?_)
    · repeat walk_at "vc"
      exact ⟨_, _, _, rfl, fun b H' S' => k b H' (S05.trans S')⟩
    repeat walk_at "vc"
    refine ⟨by simp [sizeLine], fun p6 hp6 => ?_⟩
    generalize hE : upd H5 p6 _ = H6
    obtain ⟨S6, _⟩ := upd_pair hp6 hE
    clear hE
    repeat walk_at "vc"
    exact ⟨_, _, _, rfl, fun b H' S' => k b H' (S05.trans (S6.trans S'))⟩
end
set_option Elab.async false
set_option linter.all false
set_option maxRecDepth 100000
set_option maxHeartbeats 4000000

noncomputable def spNetV : Sp := fun vs H Q _ => ∃ (D : Dk), vs = [.ref D.d, .int 7] ∧ D.At H ∧ ∀ a li lg ins gvs gs H', NAt H' a li lg ins gvs gs → NetOk ins gs → ins.length ≤ 4 → gs.length ≤ 7 → Kp D H H' → Q (.ref a) H'
theorem paired_reps {H : Hp} : ∀ (vs : List V), (∀ x ∈ vs, ∃ b, x = V.ref b) → Paired (GAt H) vs (vs.map fun _ => (("" : Str), Rl.w ""))
  | [], _ => .nil
  | v :: vs, h => .cons (h v (by simp)) (paired_reps vs fun x hx => h x (List.mem_cons_of_mem _ hx))
section
variable {P : Program} {w : World} {K : PySem.W.Frag} {mg : Str → Option Value} {base : Heap} {TT : Addr}
theorem sc_law_net : FnScope ["store", "most", "ins", "many", "names", "kind", "deep", "gates", "at", "rule"] ["store", "most"] (defScope (top 41)) := ⟨rfl, rfl, rfl, by decide +kernel, rfl, by decide +kernel, by decide +kernel⟩
theorem ok_netV {f : Addr} {fd : FuncData} (Fu : Fun K "_law_net" "_law_net" (top 41) f fd) (T : Txt K mg TT) (f_law_take : Fn P w K mg base "_law_take" ["store", "many"] 1 spDraw) (f_law_names : Fn P w K mg base "_law_names" ["store", "many"] 2 spNamesV) (f_law_rule : Fn P w K mg base "_law_rule" ["store", "names", "deep"] 11 (spRuleV 10)) (f_law_known_rule : Fn P w K mg base "_law_known_rule" ["kind", "names", "at", "ins"] 2 spKnownR) : FnOk P w K mg base CX0 12 f fd ["store", "most"] spNetV := by
  have S := sc_law_net
  refine Fu.ok S (fun vs H Q E h => ?_) (fun cdv A outer s H vs Q E hr h => ?_)
  · obtain ⟨D, rfl, _⟩ := h
    rfl
  · obtain ⟨D, rfl, DA, k⟩ := h
    refine' ⟨?_, ?bb, ?_⟩
    case bb =>
      refine' pss_cons ?s1 ?r1
      case s1 =>
        refine' ps_set (i := 2) ?n ?r ?l ?e ?s ?f
        case n => exact S.nd
        case r => rfl
        case l => first | exact Or.inl rfl | exact Or.inr rfl
        case s => rfl
        case f => first | exact Or.inl rfl | exact Or.inr rfl
        case e => exact (pe_fn f_law_take (hr.mono (by first | decide | omega)) (by rfl) (pa_cons (pv 0) (pa_cons pe_int pa_nil se_con) se_name))
      case r1 =>
        with_reducible refine' pss_cons ?s3 ?r3
        case s3 =>
          refine' ps_set (i := 3) ?n ?r ?l ?e ?s ?f
          case n => exact S.nd
          case r => rfl
          case l => first | exact Or.inl rfl | exact Or.inr rfl
          case s => rfl
          case f => first | exact Or.inl rfl | exact Or.inr rfl
          case e => exact (pe_op op_add pe_int (pe_fn f_law_take (hr.mono (by first | decide | omega)) (by rfl) (pa_cons (pv 0) (pa_cons (pv 1) pa_nil se_name) se_name)))
        case r3 =>
          with_reducible refine' pss_cons ?s5 ?r5
          case s5 =>
            refine' ps_set (i := 4) ?n ?r ?l ?e ?s ?f
            case n => exact S.nd
            case r => rfl
            case l => first | exact Or.inl rfl | exact Or.inr rfl
            case s => rfl
            case f => first | exact Or.inl rfl | exact Or.inr rfl
            case e => exact (pe_fn f_law_names (hr.mono (by first | decide | omega)) (by rfl) (pa_cons (pv 0) (pa_cons (pe_op op_add (pv 2) (pv 3)) pa_nil) se_name))
          case r5 =>
            with_reducible refine' pss_cons ?s7 ?r7
            case s7 =>
              refine' ps_set (i := 5) ?n ?r ?l ?e ?s ?f
              case n => exact S.nd
              case r => rfl
              case l => first | exact Or.inl rfl | exact Or.inr rfl
              case s => rfl
              case f => first | exact Or.inl rfl | exact Or.inr rfl
              case e => exact (pe_fn f_law_take (hr.mono (by first | decide | omega)) (by rfl) (pa_cons (pv 0) (pa_cons pe_int pa_nil se_con) se_name))
            case r7 =>
              with_reducible refine' pss_cons ?s9 ?r9
              case s9 =>
                refine' ps_set (i := 6) ?n ?r ?l ?e ?s ?f
                case n => exact S.nd
                case r => rfl
                case l => first | exact Or.inl rfl | exact Or.inr rfl
                case s => rfl
                case f => first | exact Or.inl rfl | exact Or.inr rfl
                case e =>
                  with_reducible refine' pe_ix ?r11 ?v11 ?b11 ?p11
                  case r11 => exact ix_list
                  case p11 => exact (fun _ _ => rfl)
                  case v11 =>
                    with_reducible refine' pe_lst ?a12
                    case a12 =>
                      with_reducible refine' pa_cons ?e13 ?s13 se_con
                      case e13 =>
                        exact pe_int
                      case s13 =>
                        with_reducible refine' pa_cons ?e15 ?s15 se_con
                        case e15 =>
                          exact pe_int
                        case s15 =>
                          with_reducible refine' pa_cons ?e17 ?s17 se_con
                          case e17 =>
                            exact pe_int
                          case s17 =>
                            with_reducible refine' pa_cons ?e19 ?s19 se_con
                            case e19 =>
                              exact pe_int
                            case s19 =>
                              with_reducible refine' pa_cons ?e21 ?s21 se_con
                              case e21 =>
                                exact pe_int
                              case s21 =>
                                with_reducible refine' pa_cons ?e23 ?s23 se_con
                                case e23 =>
                                  exact pe_int
                                case s23 =>
                                  with_reducible refine' pa_cons ?e25 ?s25 se_con
                                  case e25 =>
                                    exact pe_int
                                  case s25 =>
                                    with_reducible refine' pa_cons ?e27 ?s27 se_con
                                    case e27 =>
                                      exact pe_int
                                    case s27 =>
                                      exact pa_nil
                  case b11 =>
                    refine' pe_fn f_law_take (hr.mono (by first | decide | omega)) (by rfl) ?a29
                    case a29 =>
                      with_reducible refine' pa_cons ?e30 ?s30 se_name
                      case e30 =>
                        exact (pv 0)
                      case s30 =>
                        with_reducible refine' pa_cons ?e32 ?s32 se_con
                        case e32 =>
                          exact pe_int
                        case s32 =>
                          exact pa_nil
              case r9 =>
                with_reducible refine' pss_cons ?s34 ?r34
                case s34 =>
                  with_reducible refine' ps_if ?c35 ?a35 ?o35
                  case c35 => exact (pt_cmpR op_gt (pv 3) pe_int (nomark _))
                  case a35 =>
                    with_reducible refine' pss_one ?s36
                    case s36 =>
                      refine' ps_set (i := 6) ?n ?r ?l ?e ?s ?f
                      case n => exact S.nd
                      case r => rfl
                      case l => first | exact Or.inl rfl | exact Or.inr rfl
                      case s => rfl
                      case f => first | exact Or.inl rfl | exact Or.inr rfl
                      case e => exact (pe_callB (call_min2 rfl) (by rfl) T.n_min PyProof.Rows.boot_min (pa_cons (pv 6) (pa_cons pe_int pa_nil se_con) se_name))
                  case o35 =>
                    exact pss_nil
                case r34 =>
                  with_reducible refine' pss_cons ?s38 ?r38
                  case s38 =>
                    refine' ps_set (i := 7) ?n ?r ?l ?e ?s ?f
                    case n => exact S.nd
                    case r => rfl
                    case l => first | exact Or.inl rfl | exact Or.inr rfl
                    case s => rfl
                    case f => first | exact Or.inl rfl | exact Or.inr rfl
                    case e => exact (pe_lst pa_nil)
                  case r38 =>
                    with_reducible refine' pss_cons ?s40 ?r40
                    case s40 =>
                      refine' ps_for PassesOwn.never rfl ?i41 ?g41 ?b41 ?h41
                      case h41 => intro _; rfl
                      case i41 => exact (pi_range1 (by rfl) T.n_range (pa_cons (pv 3) pa_nil se_name))
                      case g41 => exact (pg_name (i := 8) S.nd rfl (by first | exact Or.inl rfl | exact Or.inr rfl))
                      case b41 =>
                        with_reducible refine' pss_cons ?s42 ?r42
                        case s42 =>
                          refine' ps_set (i := 9) ?n ?r ?l ?e ?s ?f
                          case n => exact S.nd
                          case r => rfl
                          case l => first | exact Or.inl rfl | exact Or.inr rfl
                          case s => rfl
                          case f => first | exact Or.inl rfl | exact Or.inr rfl
                          case e => exact (pe_fn f_law_rule (hr.mono (by first | decide | omega)) (by rfl) (pa_cons (pv 0) (pa_cons (pv 4) (pa_cons (pv 6) pa_nil se_name) se_name) se_name))
                        case r42 =>
                          with_reducible refine' pss_cons ?s44 ?r44
                          case s44 =>
                            with_reducible refine' ps_if ?c45 ?a45 ?o45
                            case c45 => exact (PW.pt (pw_and (pt_cmpR op_lt (pv 5) pe_int (nomark _)) (pw_and1 (pt_cmpR op_gt (pe_fn f_law_take (hr.mono (by first | decide | omega)) (by rfl) (pa_cons (pv 0) (pa_cons pe_int pa_nil se_con) se_name)) pe_int (nomark _)))))
                            case a45 =>
                              with_reducible refine' pss_one ?s46
                              case s46 =>
                                refine' ps_set (i := 9) ?n ?r ?l ?e ?s ?f
                                case n => exact S.nd
                                case r => rfl
                                case l => first | exact Or.inl rfl | exact Or.inr rfl
                                case s => rfl
                                case f => first | exact Or.inl rfl | exact Or.inr rfl
                                case e => exact (pe_fn f_law_known_rule (hr.mono (by first | decide | omega)) (by rfl) (pa_cons (pv 5) (pa_cons (pv 4) (pa_cons (pv 8) (pa_cons (pv 2) pa_nil se_name) se_name) se_name) se_name))
                            case o45 =>
                              exact pss_nil
                          case r44 =>
                            with_reducible refine' pss_one ?s48
                            case s48 =>
                              refine' ps_expr ?e
                              case e =>
                                refine' pe_bm PySem.F.plainAttrs_list PySem.F.slot_list_append PySem.F.type_list_append mt_append (pv 7) ?a
                                case a =>
                                  with_reducible refine' pa_cons ?e50 ?s50 se_tup
                                  case e50 =>
                                    with_reducible refine' pe_tup ?a51
                                    case a51 =>
                                      with_reducible refine' pa_cons ?e52 ?s52 se_sub
                                      case e52 =>
                                        with_reducible refine' pe_ix ?r53 ?v53 ?b53 ?p53
                                        case r53 => exact ix_list
                                        case p53 => exact (fun _ _ => rfl)
                                        case v53 =>
                                          exact (pv 4)
                                        case b53 =>
                                          exact (pe_op op_add (pv 2) (pv 8))
                                      case s52 =>
                                        with_reducible refine' pa_cons ?e56 ?s56 se_name
                                        case e56 =>
                                          exact (pv 9)
                                        case s56 =>
                                          exact pa_nil
                                  case s50 =>
                                    exact pa_nil
                    case r40 =>
                      with_reducible refine' pss_one ?s58
                      case s58 =>
                        exact (ps_ret (pe_tup (pa_cons (pe_slice sl_list (pv 4) po_none (po_some (pv 2))) (pa_cons (pv 7) pa_nil se_name))))
    try dsimp only [cxOf, Cx.nox, Cx.wish]
    rw [show L2.start ["store", "most", "ins", "many", "names", "kind", "deep", "gates", "at", "rule"] [V.ref D.d, V.int 7] = [some (.ref D.d), some (.int 7), none, none, none, none, none, none, none, none] from rfl]
    have big : 1000 < sizeLine := by decide
    repeat walk_at "vc"
    refine ⟨D, 5, rfl, DA, by decide, by decide, fun ri H1 i0 i5 k1 => ?_⟩
    obtain ⟨I, rfl⟩ : ∃ I : Nat, ri = (I : Int) := ⟨ri.toNat, by omega⟩
    repeat walk_at "vc"
    refine ⟨D, 7, rfl, k1.dk, by decide, by decide, fun rg H2 g0 g7 k2 => ?_⟩
    obtain ⟨G, rfl⟩ : ∃ G : Nat, rg = (G : Int) := ⟨rg.toNat, by omega⟩
    repeat walk_at "vc"
    refine ⟨D, I + (1 + G), ?_, k2.dk, by omega, by omega, fun l ns H3 nl hl k3 => ?_⟩
    · rw [show ((I + (1 + G) : Nat) : Int) = (I : Int) + (1 + (G : Int)) by omega]
    repeat walk_at "vc"
    refine ⟨D, 12, rfl, k3.dk, by decide, by decide, fun kd H4 kd0 kd12 k4 => ?_⟩
    have hl4 := k4.strs k3.dk hl
    repeat walk_at "vc"
    refine ⟨by simp [sizeLine], fun pd hpd => ?_⟩
    generalize hE : upd H4 pd _ = H5
    obtain ⟨S5, q5⟩ := upd_pair hpd hE
    clear hE
    have k45 := Kp.of k4.dk S5
    have opd : ¬ D.own pd := notOwn_fresh k4.dk hpd
    repeat walk_at "vc"
    refine ⟨D, 8, rfl, k45.dk, by decide, by decide, fun rd H6 rd0 rd8 k6 => ?_⟩
    have k46 := k45.trans k6
    have hl6 := k46.strs k4.dk hl4
    obtain ⟨dp, ed, d1, d10⟩ : ∃ dp : Nat, atI [V.int 1, V.int 2, V.int 3, V.int 4, V.int 5, V.int 6, V.int 6, V.int 10] rd = some (.int dp) ∧ 1 ≤ dp ∧ dp ≤ 10 := by
      have : rd = 0 ∨ rd = 1 ∨ rd = 2 ∨ rd = 3 ∨ rd = 4 ∨ rd = 5 ∨ rd = 6 ∨ rd = 7 := by omega
      rcases this with z | z | z | z | z | z | z | z <;> subst z
      · exact ⟨1, rfl, by omega, by omega⟩
      · exact ⟨2, rfl, by omega, by omega⟩
      · exact ⟨3, rfl, by omega, by omega⟩
      · exact ⟨4, rfl, by omega, by omega⟩
      · exact ⟨5, rfl, by omega, by omega⟩
      · exact ⟨6, rfl, by omega, by omega⟩
      · exact ⟨6, rfl, by omega, by omega⟩
      · exact ⟨10, rfl, by omega, by omega⟩
    refine i_ixL (SqL.of (k6.old _ _ q5 opd)) ed ?_
    have kpA := k1.trans (k2.trans (k3.trans (k4.trans k46)))
    refine s_name ?_
    with_reducible refine seq_join (fun σ H' => ∃ dp : Nat, σ = [some (.ref D.d), some (.int 7), some (.int I), some (.int (1 + (G : Int))), some (.ref l), some (.int kd), some (.int dp), none, none, none] ∧ 1 ≤ dp ∧ dp ≤ 10 ∧ H' = H6) (fun R hR => ?_) (fun σ' H' j' => ?_)
    · repeat walk_at "vc"
      refine ite2 (fun _ => ?_) (fun _ => ?_)
      · repeat walk_at "vc"
        refine ⟨_, _, rfl, ?_⟩
        repeat walk_at "vc"
        by_cases c : (3 : Int) < (dp : Int)
        · rw [if_pos c]
          exact hR _ _ ⟨3, rfl, by omega, by omega, rfl⟩
        · rw [if_neg c]
          exact hR _ _ ⟨dp, rfl, by omega, by omega, rfl⟩
      · repeat walk_at "vc"
        exact hR _ _ ⟨dp, rfl, by omega, by omega, rfl⟩
    obtain ⟨dp', rfl, d1', d10', rfl⟩ := j'
    repeat walk_at "vc"
    refine ⟨by simp [sizeLine], fun p hp => ?_⟩
    generalize hE : upd _ p _ = H7
    obtain ⟨S7, q7⟩ := upd_pair hp hE
    clear hE
    have kp7 := kpA.trans (Kp.of kpA.dk S7)
    have hl7 := S7 _ _ hl6
    have Hp0 : H p = none := kpA.free hp
    have nlp : l ≠ p := ne_of_none hl6 hp
    repeat walk_at "vc"
    refine ⟨by omega, by omega, ?_⟩
    rw [show ((1 : Int) + (G : Int)).toNat = 1 + G by omega]
    refine for_range (n := 1 + G) (fun j σ H' => ∃ (x8 x9 : Option V) (gvs : List V), σ = [some (.ref D.d), some (.int 7), some (.int I), some (.int (1 + (G : Int))), some (.ref l), some (.int kd), some (.int dp'), some (.ref p), x8, x9] ∧ Kp D H H' ∧ H' l = some (.lst (ns.map V.str)) ∧ H' p = some (.lst gvs) ∧ gvs.length = j ∧ ∀ x ∈ gvs, ∃ b, x = V.ref b)
      ⟨none, none, [], rfl, kp7, hl7, q7, rfl, (fun x h => nomatch h)⟩ (fun j σ H' hj pv => ?_) (fun σ H' pv => ?_)
    · obtain ⟨x8, x9, gvs, rfl, kp, hlm, hpm, gl, gr⟩ := pv
      refine s_name ?_
      repeat walk_at "vc"
      refine ⟨D, l, ns, dp', rfl, kp.dk, hlm, by omega, by omega, d1', d10', fun b H8 k8 => ?_⟩
      have kp8 := kp.trans k8
      have hl8 := k8.strs kp.dk hlm
      have hp8 := k8.refs kp.dk hpm gr
      refine s_name ?_
      with_reducible refine seq_join (fun σ H' => ∃ b : Addr, σ = [some (.ref D.d), some (.int 7), some (.int I), some (.int (1 + (G : Int))), some (.ref l), some (.int kd), some (.int dp'), some (.ref p), some (.int (0 + j)), some (.ref b)] ∧ Kp D H8 H') (fun R hR => ?_) (fun σ' H' j' => ?_)
      · have stay : Kp D H8 H8 := Kp.of kp8.dk (Same.refl _)
        repeat walk_at "vc"
        refine ite2 (fun _ => ?_) (fun _ => ?_)
        · repeat walk_at "vc"
          refine ⟨D, 8, rfl, kp8.dk, by decide, by decide, fun r9 H9 r90 r98 k9 => ?_⟩
          repeat walk_at "vc"
          refine ite2 (fun _ => ?_) (fun _ => ?_)
          · repeat walk_at "vc"
            refine ⟨kd, l, ns, j, I, 1 + G, by rw [Int.zero_add], k9.strs kp8.dk hl8, by omega, hj, by omega, by omega, fun b' H10 S10 => ?_⟩
            refine s_name ?_
            exact hR _ _ ⟨b', rfl, k9.trans (Kp.of k9.dk S10)⟩
          · repeat walk_at "vc"
            exact hR _ _ ⟨b, rfl, k9⟩
        · repeat walk_at "vc"
          exact hR _ _ ⟨b, rfl, stay⟩
      obtain ⟨b', rfl, k9⟩ := j'
      have hl9 := k9.strs kp8.dk hl8
      have hp9 := k9.refs kp8.dk hp8 gr
      have kp9 := kp8.trans k9
      repeat walk_at "vc"
      obtain ⟨nm, _, en⟩ := at_pick (ws := ns) (r := (I : Int) + (0 + (j : Int))) (by omega) (by omega)
      refine i_ixL (SqL.of hl9) en ?_
      repeat walk_at "vc"
      refine ⟨by simp [sizeLine], fun tt ht => ?_⟩
      generalize hE : upd _ tt _ = H11
      obtain ⟨S11, q11⟩ := upd_pair ht hE
      clear hE
      have hp11 := S11 _ _ hp9
      repeat walk_at "vc"
      refine i_app hp11 (by omega) ?_
      refine ⟨_, _, gvs ++ [.ref tt], rfl, Kp.fresh DA Hp0 (kp9.trans (Kp.of kp9.dk S11)), by rw [upd_ne nlp]; exact S11 _ _ hl9, upd_same, by rw [List.length_append, gl]; rfl, fun x hx => ?_⟩
      rcases List.mem_append.mp hx with h | h
      · exact gr x h
      · exact ⟨tt, by simpa using h⟩
    · obtain ⟨x8, x9, gvs, rfl, kp, hlm, hpm, gl, gr⟩ := pv
      try dsimp only
      repeat walk_at "vc"
      refine i_slL (SqL.of hlm) fun li hli => ?_
      rw [cut_to (by rw [List.length_map]; omega), ← List.map_take]
      generalize hE : upd _ li _ = H12
      obtain ⟨S12, q12⟩ := upd_pair hli hE
      clear hE
      repeat walk_at "vc"
      refine ⟨by simp [sizeLine], fun pa hpa => ?_⟩
      generalize hE : upd _ pa _ = H13
      obtain ⟨S13, q13⟩ := upd_pair hpa hE
      clear hE
      have il : (ns.take I).length = I := by rw [List.length_take]; omega
      exact k pa li p (ns.take I) gvs (gvs.map fun _ => (("" : Str), Rl.w "")) H13 ⟨q13, S13 _ _ q12, (S12.trans S13) _ _ hpm, paired_reps gvs gr⟩ ⟨by omega, by rw [List.length_map]; omega, by rw [List.length_map]; omega⟩ (by omega) (by rw [List.length_map]; omega) (kp.trans (Kp.of kp.dk (S12.trans S13)))
end
end K2
set_option Elab.async false
set_option linter.all false
set_option maxRecDepth 100000
set_option maxHeartbeats 4000000
namespace L2
open PySem PySem.Spec PyProof.Rows
structure FnMk (P : Program) (w : World) (K : PySem.W.Frag) (mg : Str → Option Value) (base : Heap) (k : Nat) (f : Addr) (fd : FuncData) (ps : List Str) (sp : Sp) : Prop where
  len : ∀ vs H Q E, sp vs H Q E → vs.length = ps.length
  run : ∀ (A : Around) (e : Addr) (outer : List Env) (s : Shared) (H : Hp) (args : Args) (us : List Value) (vs : List V) (Q : VK), Room k A → Env0 P w K mg base (A.mark (some (.ref e))) outer s H → BindsTo s fd args (ps.zip us) → Vals vs us → sp vs H Q E0 →
    codeAny (model P w) (A.mark (some (.ref e))) (.call (.ref f) args) (CR CX0 outer P w H s Q E0) s
theorem fn_ofM {P : Program} {w : World} {K : PySem.W.Frag} {mg : Str → Option Value} {base : Heap} {k : Nat} {f : Addr} {name qual : Str} {params : Arguments} {body : List Stmt} {scope : Scope} {dV kV doc pm cdv ct oc : Value} {an od : Option Addr}
    {osl : Array (Option Value)} {N ps : List Str} {sp : Sp} (lk : K.lookup f = some ⟨oc, od, .func (PySem.W.fnOf name qual params body scope dV kV doc pm an cdv ct), osl⟩) (hcd : PySem.W.codeIn K cdv qual = true) (S : FnScope N ps scope)
    (len : ∀ vs H Q E, sp vs H Q E → vs.length = ps.length)
    (hbody : ∀ (A : Around) (e : Addr) (outer : List Env) (s : Shared) (H : Hp) (vs : List V) (Q : VK), Room k (A.deeper (envOfC qual scope s.heap.objs.size f cdv)) → sp vs H Q E0 →
      ∃ t, PSs ((cxOf CX0 P w K mg base N qual scope f cdv A outer s H E0).marked e) body t ∧ t { nx := fun _ H' => Q .non H', rt := Q } (start N vs) H) :
    FnMk P w K mg base (k + 1) f (PySem.W.fnOf name qual params body scope dV kV doc pm an cdv ct) ps sp := by
  refine ⟨len, fun A e outer s H args us vs Q hr e1 hb r hsp => ?_⟩
  have e0 : Env0 P w K mg base A outer s H := ⟨e1.frames, e1.mod, e1.bs, e1.bsz, e1.funs, e1.frf, e1.hok, e1.bare⟩
  have hl := len _ _ _ _ hsp
  have KX : K.In s.heap := e0.mod.kin.keeps fun b o e => (e0.bs b o e).1
  have lim : s.heap.NoLimit := e0.mod.nolimit.keeps fun b o e => (e0.bs b o e).1
  have hkind : ∀ y ∈ ps.zip us, scope.names.lookup y.1 = some .local ∨ (scope.names.lookup y.1 = some .cell ∧ ((cellsFrom (s.heap.objs.size + 1) scope.names []).lookup y.1).isSome = true) := fun ⟨n, v⟩ hy => by
    rcases S.par n (List.of_mem_zip hy).1 with q | q
    · exact .inl q
    · exact .inr ⟨q, PySem.W.cellsFrom_some _ _ _ (.inl q)⟩
  refine codeAny_call_function (A := A.mark (some (.ref e))) hr.depth (KX _ _ lk) rfl S.co S.gen rfl (PySem.W.codeRec_of KX hcd) (hb _ _ _ _ ?_)
  refine wpAny_newFunctionEnv_cells S.kind hkind fun env he s1 x => ?_
  subst he
  refine ⟨lim.keeps x.toInCall.keep, codeAny_func ?_⟩
  obtain ⟨t, ht, hq⟩ := hbody A e outer s H vs Q (hr.deeper _) hsp
  have I : Inv (cxOf CX0 P w K mg base N qual scope f cdv A outer s H E0) [] (start N vs) H s1 := inv_start S hr.hd e0 hl r x
  refine wpAny_mono (ht [] s1 (start N vs) H _ (I.mark e) hq) (fun fl s' hs => ?_) fun e s' hs => False.elim hs
  have fin : ∀ {σ' : St} {H' : Hp} {v : V} {u : Value}, Inv ((cxOf CX0 P w K mg base N qual scope f cdv A outer s H E0).marked e) [] σ' H' s' → RelV v u → Q v H' → CE outer P w H s Q u s' :=
    fun {σ' H' v u} J rv q => ⟨v, H', J.os, J.bare, J.base, J.hok, rv, q⟩
  cases fl with
  | ret u =>
    obtain ⟨v, σ', H', J, rv, q⟩ := hs
    exact fin J rv q
  | next =>
    obtain ⟨σ', H', J, q⟩ := hs
    exact fin (v := V.non) (u := Value.none) J rfl q
  | brk =>
    obtain ⟨_, _, _, q⟩ := hs
    exact False.elim q
  | cont =>
    obtain ⟨_, _, _, q⟩ := hs
    exact False.elim q
structure FnM (P : Program) (w : World) (K : PySem.W.Frag) (mg : Str → Option Value) (base : Heap) (x : Str) (ps : List Str) (k : Nat) (sp : Sp) : Prop where
  ex : ∃ f fd, FnMk P w K mg base k f fd ps sp ∧ mg x = some (.ref f) ∧ PySem.W.keepIn K (.ref f) = true ∧ Binds K fd ps []
theorem pe_fnM {X : Cx} {a : Addr} {x : Str} {ps : List Str} {k : Nat} {sp : Sp} {e : Expr} {es : List Expr} {t : TA} {p pos : Pos} (F : FnM X.prog X.w X.K X.mg X.base x ps k sp) (hr : Room k X.A) (hg : Gl (X.marked a) x) (ha : PA (X.marked a) (e :: es) t)
    (hdb : (x == ("__debug__" : Str)) = false := by decide) (he : starEach (e :: es) X.env = (false, eval e X.env) :: starEach es X.env := by rfl) (hpl : (backTo pos (starEach es X.env)).any (·.1) = false := by rfl) :
    PE (X.marked a) (.Call (.Name x p) (e :: es) [] pos) (tCall sp [] E0 t) := by
  obtain ⟨f, fd, G, hm, hk, hb⟩ := F.ex
  intro pins s σ H Q I h
  refine wpAny_Call_Name_kw (ld_glob I hg hm ?_ hdb)
  refine PySem.W.callWith_K (h₀ := X.base) I.ok.mod.kin hk (thn (ha pos pins s σ H _ I h) fun us s1 ⟨vs, H1, I1, r, q⟩ => ⟨I1.kIn, ?_⟩) he hpl
  replace q : sp (vs ++ []) H1 Q E0 := q
  rw [List.append_nil] at q
  have hl : us.length = ps.length := by rw [← r.length]; exact G.len _ _ _ _ q
  have hb' := hb s1 us I1.kIn (by rw [List.append_nil]; exact hl)
  rw [List.append_nil] at hb'
  refine wpAny_call (codeAny_mono (G.run X.A a X.stack s1 H1 ⟨us, []⟩ us vs Q hr I1.env0 hb' r q) fun r s' hq => ?_)
  cases r with
  | error e => exact False.elim hq
  | ok fl =>
    cases fl with
    | ret u => exact I1.after hq
    | next => exact False.elim hq
    | brk => exact False.elim hq
    | cont => exact False.elim hq
theorem kit_any_nil {K : PySem.W.Frag} {t : Value} : PySem.W.kitAny K t [] = some false := rfl
theorem kit_any_cons {K : PySem.W.Frag} {t c : Value} {cs : List Value} {b : Bool} (h : PySem.W.kitOne K t c = some false) (r : PySem.W.kitAny K t cs = some b) : PySem.W.kitAny K t (c :: cs) = some b := by
  rw [PySem.W.kitAny.eq_def]
  simp only [h, r]
end L2
set_option Elab.async false
set_option linter.all false
set_option maxRecDepth 100000
set_option maxHeartbeats 4000000
namespace K2
open PySem L2
local macro_rules | `(tactic| walk_at "vc") => `(tactic| first
  | (with_reducible refine s_seq ?_) | (with_reducible refine s_asg ?_) | (with_reducible refine s_name ?_) | (with_reducible refine s_drop ?_) | (with_reducible refine s_ret ?_) | (with_reducible refine s_if ?_) | (with_reducible refine s_sub ?_) | (with_reducible refine s_next ?_)
  | ((with_reducible refine' i_var ?hv ?_); (case hv => exact rfl)) | (with_reducible refine i_c ?_) | (with_reducible refine i_op ?_) | (with_reducible refine i_rI0 ?_) | (with_reducible refine i_test ?_) | (with_reducible refine i_tB ?_) | (with_reducible refine i_and ?_) | (with_reducible refine i_or ?_)
  | (with_reducible refine i_not ?_) | (with_reducible refine i_andV ?_) | (with_reducible refine i_orV ?_) | (with_reducible refine i_notV ?_) | (with_reducible refine i_ifE ?_) | (with_reducible refine i_nil ?_) | (with_reducible refine i_cons ?_) | (with_reducible refine i_call ?_) | (with_reducible refine i_cb ?_)
  | (with_reducible refine i_tup ?_) | (with_reducible refine i_lst ?_) | (with_reducible refine i_bm ?_) | (with_reducible refine i_sl ?_) | (with_reducible refine i_nopart ?_) | (with_reducible refine i_part ?_) | ((with_reducible show ∃ i, V.int _ = V.int i ∧ _); (refine ⟨_, rfl, ?_⟩)) | ((with_reducible show ∃ k, V.bl _ = V.bl k ∧ _); (refine ⟨_, rfl, ?_⟩)) | ((with_reducible show (∃ i, [V.bl _] = [V.int i] ∧ _) ∨ _); (refine Or.inr ⟨_, rfl, ?_⟩))
  | (with_reducible refine s_for ?_) | (with_reducible refine s_rng1 ?_) | (with_reducible refine s_list ?_) | (with_reducible refine s_str ?_) | (with_reducible refine s_strI ?_) | (with_reducible refine iteF ?_) | (with_reducible refine iteT ?_)
  | ((with_reducible refine' i_ixL ?ha ?hb ?_); (case ha => exact SqL.of (by assumption)); (case hb => exact rfl)) | ((with_reducible refine' i_ixT ?ha ?hb ?_); (case ha => assumption); (case hb => exact rfl))
  | ((with_reducible show ∃ p _, [V.ref _] = [V.ref p] ∧ (SqL _ _ _ _ ∨ SqT _ _ _ _) ∧ _); (refine' ⟨_, _, rfl, Or.inl (SqL.of ?ha), ?_⟩); (case ha => assumption)) | ((with_reducible refine' s_setL ?ha ?hb ?_); (case ha => assumption); (case hb => exact rfl))
  | ((with_reducible refine' i_eq ?ha ?_); (case ha => exact rfl)) | ((with_reducible refine' i_ne ?ha ?_); (case ha => exact rfl))
  | (with_reducible refine i_dget ?_) | (with_reducible refine i_yes ?_) | ((with_reducible show ∃ z, V.str _ = V.str z ∧ _); (refine ⟨_, rfl, ?_⟩))
  | (with_reducible refine i_un ?_) | (with_reducible refine i_rU ?_)
  | ((with_reducible refine' i_rI ?hv ?_); (case hv => first | decide | (dsimp only; omega) | exact .inl ⟨by omega, by omega⟩ | exact .inr ⟨by omega, by omega⟩ | exact ⟨by decide, by decide⟩ | exact ⟨by decide, by decide, by decide⟩ | exact ⟨by omega, by omega⟩))
  | ((with_reducible show ∃ i, [V.int _] = [V.int i] ∧ _); (refine ⟨_, rfl, ?_⟩))
  | ((with_reducible show tyV _ "list" _ _ ∧ _); (refine' ⟨i_tyL ?ha, ?_⟩); (case ha => assumption)))

structure Held6 (C : Addr) (H : Hp) (e : Addr) : Prop where
  ex : ∃ d fr, H e = some (XO e C d fr) ∧ ∀ dx, d = some dx → ∃ fs, H dx = some (.xd fs)
theorem Held6.same {C e : Addr} {H H' : Hp} (h : Held6 C H e) (S : Same H H') : Held6 C H' e := let ⟨d, fr, a, b⟩ := h.ex; ⟨d, fr, S _ _ a, fun dx q => let ⟨fs, z⟩ := b dx q; ⟨fs, S _ _ z⟩⟩
theorem i_isX0 {K : PySem.W.Frag} {C NE e : Addr} {c : V} {H : Hp} {Q : VK} {b : Bool} (h : Held6 C H e) (kl : XE.XKl K C NE) (hc : (∃ a, c = .ref a) ∨ ∃ n, c = .ty n) (k : PySem.W.kitOne K (.ref C) (clsV c) = some b) (q : Q (.bl b) H) : rIsX0 K [V.ref e, c] H Q := by
  obtain ⟨d, fr, h1, h2⟩ := h.ex
  exact ⟨e, C, NE, d, fr, c, b, rfl, hc, h1, h2, kl, k, q⟩
theorem i_tryX {K : PySem.W.Frag} {NE : Addr} {i : Nat} {tb : XK → TS} {tsu : TS} {D : Ends} {σ : St} {H : Hp} (q : tb (fun cls ea H2 => ∃ e, ea = some e ∧ PySem.W.exmOne K cls (.ref NE) = some true ∧ tsu { nx := fun σ' H' => D.nx (σ'.set i none) H', rt := fun _ _ => False } (σ.set i (some (.ref e))) H2)
    { nx := D.nx, rt := fun _ _ => False } σ H) : tTryX K NE i tb tsu D σ H := q
theorem i_xIf {tc : TT} {t u : XK → TS} {E : XK} {D : Ends} {σ : St} {H : Hp} (q : tc σ H fun b H1 => if b = true then t E D σ H1 else u E D σ H1) : xIf tc t u E D σ H := q
theorem i_xCall {sp : Sp} {t : TA} {E : XK} {D : Ends} {σ : St} {H : Hp} (q : t σ H fun vs H1 => sp vs H1 (fun _ H2 => D.nx σ H2) E) : xCall sp t E D σ H := q
theorem px_fn1 {X : Cx} {x : Str} {ps : List Str} {k : Nat} {sp : Sp} {e : Expr} {es : List Expr} {t : TA} {p cpos epos : Pos} (F : Fn1 X.prog X.w X.K X.mg X.base x ps k sp) (hr : Room k X.A) (hg : Gl X x) (ha : PA X.nox (e :: es) t)
    (hdb : (x == ("__debug__" : Str)) = false := by decide) (he : starEach (e :: es) X.env = (false, eval e X.env) :: starEach es X.env := by rfl) (hpl : (backTo cpos (starEach es X.env)).any (·.1) = false := by rfl)
    (hs : swapsWith (.Call (.Name x p) (e :: es) [] cpos) none epos.line X.env = pure false := by rfl) :
    PX X [.Expr (.Call (.Name x p) (e :: es) [] cpos) epos] (xCall sp t) := by
  obtain ⟨f, fd, G, hm, hk, hb⟩ := F.ex
  exact px_call G hr hg hm hk hb ha hdb he hpl hs
structure KindsM (mg : Str → Option Value) (c0 c2 c3 c4 c5 : Addr) : Prop where
  m0 : mg "NoStanding" = some (.ref c0)
  m2 : mg "NoFit" = some (.ref c2)
  m3 : mg "NoText" = some (.ref c3)
  m4 : mg "NoName" = some (.ref c4)
  m5 : mg "NoRow" = some (.ref c5)
  mV : mg "ValueError" = none
structure NmE (mg : Str → Option Value) (CS NE : Addr) : Prop where
  mS : mg "NoStep" = some (.ref CS)
  mE : mg "NetError" = some (.ref NE)
structure Kin (K : PySem.W.Frag) (C NE c1 c2 c3 c4 c5 : Addr) : Prop where
  k0 : PySem.W.kitOne K (.ref C) (.ref C) = some true
  kO : PySem.W.kitAny K (.ref C) ([c2, c3, c4, c5, c1].map Value.ref) = some false
  kV : PySem.W.kitOne K (.ref C) (.type "ValueError") = some true
  ex : PySem.W.exmOne K (.ref C) (.ref NE) = some true
  kl : XE.XKl K C NE
theorem i_isXT {K : PySem.W.Frag} {C NE e t : Addr} {cs : List Addr} {H : Hp} {Q : VK} {b : Bool} (h : Held6 C H e) (kl : XE.XKl K C NE) (ht : H t = some (.tup (cs.map V.ref))) (k : PySem.W.kitAny K (.ref C) (cs.map Value.ref) = some b) (q : Q (.bl b) H) : rIsXT K [V.ref e, V.ref t] H Q := by
  obtain ⟨d, fr, h1, h2⟩ := h.ex
  exact ⟨e, C, NE, d, fr, t, cs, b, rfl, ht, h1, h2, kl, k, q⟩
noncomputable def spBadA (K : PySem.W.Frag) (C : Addr) : Sp := fun vs H Q E => ∃ a li lg ins gvs gs v, vs = [.ref a, v] ∧ NAt H a li lg ins gvs gs ∧ NetOk ins gs ∧ BadT K H (wiresN ins gs).length v ∧ ∀ H' e, Raised0 C H H' e → E (.ref C) (some e) H'
noncomputable def spBadS (K : PySem.W.Frag) (C : Addr) : Sp := fun vs H Q E => ∃ a li lg ins gvs gs v x, vs = [.ref a, v, x] ∧ NAt H a li lg ins gvs gs ∧ NetOk ins gs ∧ BadT K H (wiresN ins gs).length v ∧ ∀ H' e, Raised0 C H H' e → E (.ref C) (some e) H'
noncomputable def spClass (c0 : Addr) : Sp := fun vs H Q _ => ∃ (e : Addr), vs = [.ref e] ∧ Held6 c0 H e ∧ ∀ H', Same H H' → Q (.str "standing") H'
noncomputable def spRefV (K : PySem.W.Frag) : Sp := fun vs H Q _ => ∃ (way : Nat) (a li lg : Addr) (ins : List Str) (gvs : List V) (gs : List (Str × Rl)) (v x : V), vs = [.int (way : Int), .ref a, v, x] ∧ way < 3 ∧ NAt H a li lg ins gvs gs ∧ NetOk ins gs ∧ BadT K H (wiresN ins gs).length v ∧ ∀ H', Same H H' → Q (.bl true) H'
section
variable {P : Program} {w : World} {K : PySem.W.Frag} {mg : Str → Option Value} {base : Heap} {TT : Addr}
theorem sc_first_race : FnScope ["net", "standing", "found", "here", "pair"] ["net", "standing"] (defScope (top 28)) := ⟨rfl, rfl, rfl, by decide +kernel, rfl, by decide +kernel, by decide +kernel⟩
theorem ok_raceB {f : Addr} {fd : FuncData} (Fu : Fun K "first_race" "first_race" (top 28) f fd) (T : Txt K mg TT) {C0 : Addr} (fc : Fn1 P w K mg base "check_standing" ["net", "thing"] 3 (spCheckB K C0)) : FnOk P w K mg base (CX1 P w) 4 f fd ["net", "standing"] (spBadA K C0) := by
  have S := sc_first_race
  obtain ⟨oc, od, kV, doc, pm, an, cdv, ct, osl, rfl, lk, hcd⟩ := Fu.ex
  refine fn_of lk hcd S (fun vs H Q E h => ?_) (fun A outer s H vs Q E hr h => ?_)
  · obtain ⟨a, li, lg, ins, gvs, gs, v, rfl, _⟩ := h
    rfl
  · obtain ⟨a, li, lg, ins, gvs, gs, v, rfl, NA, ok, st, k⟩ := h
    refine ⟨_, (pss_cons (ps_expr (pe_fnX fc (hr.mono (by first | decide | omega)) (by rfl) pass_on (pa_cons (pv 0) (pa_cons (pv 1) pa_nil)))) pss_never), ?_⟩
    try dsimp only [cxOf, Cx.nox, Cx.wish]
    refine s_seq (i_call (i_cons (i_var rfl (i_cons (i_var rfl (i_nil ?_))))))
    exact ⟨a, li, lg, ins, gvs, gs, v, rfl, NA, ok, st, k⟩
theorem sc_calm_paper : FnScope ["net", "standing", "found"] ["net", "standing"] (defScope (top 29)) := ⟨rfl, rfl, rfl, by decide +kernel, rfl, by decide +kernel, by decide +kernel⟩
theorem ok_paperB {f : Addr} {fd : FuncData} (Fu : Fun K "calm_paper" "calm_paper" (top 29) f fd) (T : Txt K mg TT) {C0 : Addr} (fc : Fn1 P w K mg base "check_standing" ["net", "thing"] 3 (spCheckB K C0)) : FnOk P w K mg base (CX1 P w) 4 f fd ["net", "standing"] (spBadA K C0) := by
  have S := sc_calm_paper
  obtain ⟨oc, od, kV, doc, pm, an, cdv, ct, osl, rfl, lk, hcd⟩ := Fu.ex
  refine fn_of lk hcd S (fun vs H Q E h => ?_) (fun A outer s H vs Q E hr h => ?_)
  · obtain ⟨a, li, lg, ins, gvs, gs, v, rfl, _⟩ := h
    rfl
  · obtain ⟨a, li, lg, ins, gvs, gs, v, rfl, NA, ok, st, k⟩ := h
    refine ⟨_, (pss_cons (ps_expr (pe_fnX fc (hr.mono (by first | decide | omega)) (by rfl) pass_on (pa_cons (pv 0) (pa_cons (pv 1) pa_nil)))) pss_never), ?_⟩
    try dsimp only [cxOf, Cx.nox, Cx.wish]
    refine s_seq (i_call (i_cons (i_var rfl (i_cons (i_var rfl (i_nil ?_))))))
    exact ⟨a, li, lg, ins, gvs, gs, v, rfl, NA, ok, st, k⟩
theorem sc_calm_shows : FnScope ["net", "standing", "paper", "steps"] ["net", "standing", "paper"] (defScope (top 32)) := ⟨rfl, rfl, rfl, by decide +kernel, rfl, by decide +kernel, by decide +kernel⟩
theorem ok_showsB {f : Addr} {fd : FuncData} (Fu : Fun K "calm_shows" "calm_shows" (top 32) f fd) (T : Txt K mg TT) {C0 : Addr} (fc : Fn1 P w K mg base "check_standing" ["net", "thing"] 3 (spCheckB K C0)) : FnOk P w K mg base (CX1 P w) 4 f fd ["net", "standing", "paper"] (spBadS K C0) := by
  have S := sc_calm_shows
  obtain ⟨oc, od, kV, doc, pm, an, cdv, ct, osl, rfl, lk, hcd⟩ := Fu.ex
  refine fn_of lk hcd S (fun vs H Q E h => ?_) (fun A outer s H vs Q E hr h => ?_)
  · obtain ⟨a, li, lg, ins, gvs, gs, v, x, rfl, _⟩ := h
    rfl
  · obtain ⟨a, li, lg, ins, gvs, gs, v, x, rfl, NA, ok, st, k⟩ := h
    refine ⟨_, (pss_cons (ps_expr (pe_fnX fc (hr.mono (by first | decide | omega)) (by rfl) pass_on (pa_cons (pv 0) (pa_cons (pv 1) pa_nil)))) pss_never), ?_⟩
    try dsimp only [cxOf, Cx.nox, Cx.wish]
    refine s_seq (i_call (i_cons (i_var rfl (i_cons (i_var rfl (i_nil ?_))))))
    exact ⟨a, li, lg, ins, gvs, gs, v, rfl, NA, ok, st, k⟩
theorem sc_law_class : FnScope ["e"] ["e"] (defScope (top 48)) := ⟨rfl, rfl, rfl, by decide +kernel, rfl, by decide +kernel, by decide +kernel⟩
theorem ok_class {f : Addr} {fd : FuncData} (Fu : Fun K "_law_class" "_law_class" (top 48) f fd) (T : Txt K mg TT) {CS NE c0 c2 c3 c4 c5 : Addr} (N : NmE mg CS NE) (KD : KindsM mg c0 c2 c3 c4 c5) (Y : Kin K c0 NE CS c2 c3 c4 c5) : FnMk P w K mg base 1 f fd ["e"] (spClass c0) := by
  have S := sc_law_class
  obtain ⟨oc, od, kV, doc, pm, an, cdv, ct, osl, rfl, lk, hcd⟩ := Fu.ex
  refine fn_ofM lk hcd S (fun vs H Q E h => ?_) (fun A ea outer s H vs Q hr h => ?_)
  · obtain ⟨e, rfl, _⟩ := h
    rfl
  · obtain ⟨e, rfl, hd, k⟩ := h
    refine ⟨_, (pss_cons (ps_if (PW.pt (pw_or (pt_not (pt_val (pe_callB call_isinstX0 (by rfl) T.n_isinstance PyProof.Rows.boot_isinstance (pa_cons (pv 0) (pa_cons (pe_bltn (v := .ty "ValueError") (by rfl) KD.mV PyProof.Rows.Boot.«ValueError» rfl) pa_nil))))) (pw_or1 (pt_not (pt_val (pe_callB call_isinstX0 (by rfl) T.n_isinstance PyProof.Rows.boot_isinstance (pa_cons (pv 0) (pa_cons (pe_glob (v := .ref c0) (by rfl) KD.m0 rfl) pa_nil)))))))) (pss_one (ps_ret pe_str)) pss_nil)
      (pss_cons (ps_if (pt_val (pe_callB call_isinstXT (by rfl) T.n_isinstance PyProof.Rows.boot_isinstance (pa_cons (pv 0) (pa_cons (pe_tup (pa_cons (pe_glob (v := .ref c2) (by rfl) KD.m2 rfl) (pa_cons (pe_glob (v := .ref c3) (by rfl) KD.m3 rfl) (pa_cons (pe_glob (v := .ref c4) (by rfl) KD.m4 rfl) (pa_cons (pe_glob (v := .ref c5) (by rfl) KD.m5 rfl) (pa_cons (pe_glob (v := .ref CS) (by rfl) N.mS rfl) pa_nil)))))) pa_nil)))) (pss_one (ps_ret pe_str)) pss_nil)
      (pss_one (ps_ret pe_str)))), ?_⟩
    try dsimp only [cxOf, Cx.nox, Cx.wish, Cx.marked]
    rw [show L2.start ["e"] [V.ref e] = [some (.ref e)] from rfl]
    repeat walk_at "vc"
    refine i_isX0 hd Y.kl (.inr ⟨_, rfl⟩) Y.kV ?_
    refine ⟨_, rfl, iteF ?_⟩
    repeat walk_at "vc"
    refine i_isX0 hd Y.kl (.inl ⟨_, rfl⟩) Y.k0 ?_
    refine ⟨_, rfl, iteF ?_⟩
    repeat walk_at "vc"
    refine ⟨by simp [sizeLine], fun p hp => ?_⟩
    generalize hE : upd H p _ = H1
    obtain ⟨S1, q1⟩ := upd_pair hp hE
    clear hE
    repeat walk_at "vc"
    refine i_isXT (cs := [c2, c3, c4, c5, CS]) (hd.same S1) Y.kl q1 Y.kO ?_
    refine ⟨_, rfl, iteF ?_⟩
    repeat walk_at "vc"
    exact k H1 S1
theorem sc_law_refused : FnScope ["way", "net", "thing", "paper", "word", "e"] ["way", "net", "thing", "paper"] (defScope (top 49)) := ⟨rfl, rfl, rfl, by decide +kernel, rfl, by decide +kernel, by decide +kernel⟩
theorem ok_refV {f : Addr} {fd : FuncData} (Fu : Fun K "_law_refused" "_law_refused" (top 49) f fd) (T : Txt K mg TT) {CS NE c0 c2 c3 c4 c5 : Addr} (N : NmE mg CS NE) (Y : Kin K c0 NE CS c2 c3 c4 c5) (f_first_race : Fn1 P w K mg base "first_race" ["net", "standing"] 4 (spBadA K c0)) (f_calm_paper : Fn1 P w K mg base "calm_paper" ["net", "standing"] 4 (spBadA K c0)) (f_calm_shows : Fn1 P w K mg base "calm_shows" ["net", "standing", "paper"] 4 (spBadS K c0)) (f_law_class : FnM P w K mg base "_law_class" ["e"] 1 (spClass c0)) :
    FnOk P w K mg base CX0 5 f fd ["way", "net", "thing", "paper"] (spRefV K) := by
  have S := sc_law_refused
  refine Fu.ok S (fun vs H Q E h => ?_) (fun cdv A outer s H vs Q E hr h => ?_)
  · obtain ⟨way, a, li, lg, ins, gvs, gs, v, x, rfl, _⟩ := h
    rfl
  · obtain ⟨way, a, li, lg, ins, gvs, gs, v, x, rfl, w3, NA, ok, bad, k⟩ := h
    refine ⟨_, (pss_cons (ps_set (i := 4) S.nd rfl (by first | exact Or.inl rfl | exact Or.inr rfl) pe_str)
      (pss_cons (ps_tryX (i := 5) (px_if (pt_cmpR op_eq (pv 0) pe_int (nomark _)) (px_fn1 f_first_race (hr.mono (by first | decide | omega)) (by rfl) (pa_cons (pv 1) (pa_cons (pv 2) pa_nil))) (px_if (pt_cmpR op_eq (pv 0) pe_int (nomark _)) (px_fn1 f_calm_paper (hr.mono (by first | decide | omega)) (by rfl) (pa_cons (pv 1) (pa_cons (pv 2) pa_nil))) (px_fn1 f_calm_shows (hr.mono (by first | decide | omega)) (by rfl) (pa_cons (pv 1) (pa_cons (pv 2) (pa_cons (pv 3) pa_nil)))))) (by rfl) N.mE S.nd rfl (by rfl) (fun _ => (pss_one (ps_set (i := 4) S.nd rfl (by first | exact Or.inl rfl | exact Or.inr rfl) (pe_fnM f_law_class (hr.mono (by first | decide | omega)) (by rfl) (pa_cons (pv 5) pa_nil))))) rfl)
      (pss_one (ps_ret (pe_cmpR op_eq (pv 4) pe_str (nomark _)))))), ?_⟩
    try dsimp only [cxOf, Cx.nox, Cx.wish]
    rw [show L2.start ["way", "net", "thing", "paper", "word", "e"] [V.int (way : Int), V.ref a, v, x] = [some (.int (way : Int)), some (.ref a), some v, some x, none, none] from rfl]
    repeat walk_at "vc"
    refine i_tryX ?_
    generalize hTS : (fun (cls : Value) (ea : Option Addr) (H2 : Hp) => _) = EE
    have after : ∀ H' e, Raised0 c0 H H' e → EE (.ref c0) (some e) H' := fun H' e r => by
      subst hTS
      obtain ⟨S1, h1⟩ := r
      have hd : Held6 c0 H' e := ⟨none, false, h1, fun dx q => nomatch q⟩
      refine ⟨e, rfl, Y.ex, ?_⟩
      repeat walk_at "vc"
      refine ⟨e, rfl, hd, fun H2 S2 => ?_⟩
      refine s_name ?_
      dsimp only
      repeat walk_at "vc"
      have e1 : decide (V.str ("standing" : Str) = V.str "standing") = true := decide_eq_true rfl
      first
      | exact k H2 (S1.trans S2)
      | (rw [e1]; exact k H2 (S1.trans S2))
      | (have z := k H2 (S1.trans S2); rw [← e1] at z; exact z)
    clear hTS
    refine i_xIf ?_
    repeat walk_at "vc"
    have w4 : way = 0 ∨ way = 1 ∨ way = 2 := by omega
    rcases w4 with rfl | rfl | rfl
    · refine ifT (by decide) (i_xCall ?_)
      repeat walk_at "vc"
      exact ⟨a, li, lg, ins, gvs, gs, v, rfl, NA, ok, bad, after⟩
    · refine ifF (by decide) (i_xIf ?_)
      repeat walk_at "vc"
      refine ifT (by decide) (i_xCall ?_)
      repeat walk_at "vc"
      exact ⟨a, li, lg, ins, gvs, gs, v, rfl, NA, ok, bad, after⟩
    · refine ifF (by decide) (i_xIf ?_)
      repeat walk_at "vc"
      refine ifF (by decide) (i_xCall ?_)
      repeat walk_at "vc"
      exact ⟨a, li, lg, ins, gvs, gs, v, x, rfl, NA, ok, bad, after⟩
end
end K2
set_option Elab.async false
set_option linter.all false
set_option maxRecDepth 100000
set_option maxHeartbeats 4000000
namespace K2
open PySem L2
local macro_rules | `(tactic| walk_at "vc") => `(tactic| first
  | (with_reducible refine s_seq ?_) | (with_reducible refine s_asg ?_) | (with_reducible refine s_name ?_) | (with_reducible refine s_drop ?_) | (with_reducible refine s_ret ?_) | (with_reducible refine s_if ?_) | (with_reducible refine s_sub ?_) | (with_reducible refine s_next ?_)
  | ((with_reducible refine' i_var ?hv ?_); (case hv => exact rfl)) | (with_reducible refine i_c ?_) | (with_reducible refine i_op ?_) | (with_reducible refine i_rI0 ?_) | (with_reducible refine i_test ?_) | (with_reducible refine i_tB ?_) | (with_reducible refine i_and ?_) | (with_reducible refine i_or ?_)
  | (with_reducible refine i_not ?_) | (with_reducible refine i_andV ?_) | (with_reducible refine i_orV ?_) | (with_reducible refine i_notV ?_) | (with_reducible refine i_ifE ?_) | (with_reducible refine i_nil ?_) | (with_reducible refine i_cons ?_) | (with_reducible refine i_call ?_) | (with_reducible refine i_cb ?_)
  | (with_reducible refine i_tup ?_) | (with_reducible refine i_lst ?_) | (with_reducible refine i_bm ?_) | (with_reducible refine i_sl ?_) | (with_reducible refine i_nopart ?_) | (with_reducible refine i_part ?_) | ((with_reducible show ∃ i, V.int _ = V.int i ∧ _); (refine ⟨_, rfl, ?_⟩)) | ((with_reducible show ∃ k, V.bl _ = V.bl k ∧ _); (refine ⟨_, rfl, ?_⟩)) | ((with_reducible show (∃ i, [V.bl _] = [V.int i] ∧ _) ∨ _); (refine Or.inr ⟨_, rfl, ?_⟩))
  | (with_reducible refine s_for ?_) | (with_reducible refine s_rng1 ?_) | (with_reducible refine s_list ?_) | (with_reducible refine s_str ?_) | (with_reducible refine s_strI ?_) | (with_reducible refine iteF ?_) | (with_reducible refine iteT ?_)
  | ((with_reducible refine' i_ixL ?ha ?hb ?_); (case ha => exact SqL.of (by assumption)); (case hb => exact rfl)) | ((with_reducible refine' i_ixT ?ha ?hb ?_); (case ha => assumption); (case hb => exact rfl))
  | ((with_reducible show ∃ p _, [V.ref _] = [V.ref p] ∧ (SqL _ _ _ _ ∨ SqT _ _ _ _) ∧ _); (refine' ⟨_, _, rfl, Or.inl (SqL.of ?ha), ?_⟩); (case ha => assumption)) | ((with_reducible refine' s_setL ?ha ?hb ?_); (case ha => assumption); (case hb => exact rfl))
  | ((with_reducible refine' i_eq ?ha ?_); (case ha => exact rfl)) | ((with_reducible refine' i_ne ?ha ?_); (case ha => exact rfl))
  | (with_reducible refine i_dget ?_) | (with_reducible refine i_yes ?_) | ((with_reducible show ∃ z, V.str _ = V.str z ∧ _); (refine ⟨_, rfl, ?_⟩)))

theorem comp_letters {D : Dk} {t : Str} {n : Nat} {H1 : Hp} {L : Addr} {te : TE} {σ0 : St} {QD : Hp → Prop} (DA : D.At H1) (hL : H1 L = none) (hn : n ≤ 1000) (hwk : ∀ x, wk σ0 (σ0.set 0 (some x)))
    (hstep : ∀ (i : Int) H' (Q : VK), D.At H' → (∀ c H'', c ∈ t.cps.toList → Kp D H' H'' → Q (.str ⟨#[c]⟩) H'') → te (σ0.set 0 (some (.int i))) H' Q)
    (hd : ∀ H' (zs : List Str), zs.length = n → (∀ z ∈ zs, ∃ c ∈ t.cps.toList, z = ⟨#[c]⟩) → Kp D H1 H' → H' L = some (.lst (zs.map V.str)) → QD H') :
    ∃ W : Nat → Nat → Hp → List V → Prop, (∃ m, W 0 m (upd H1 L (.lst [])) []) ∧ ∀ i m H ys, W i m H ys → H L = some (.lst ys) ∧ (((Itr 0 n).stop i H ∧ QD H) ∨ ((Itr 0 n).go i H ∧ ∀ x H', (Itr 0 n).yld i H x H' → gName 0 x σ0 H' fun σ2 H2 => wk σ0 σ2 ∧ tYes σ2 H2 fun b H3 =>
      if b = true then te σ2 H3 fun v H4 => H4 L = some (.lst ys) ∧ ys.length < sizeLine ∧ ∃ m', m' < m ∧ W (i + 1) m' (upd H4 L (.lst (ys ++ [v]))) (ys ++ [v]) else ∃ m', m' < m ∧ W (i + 1) m' H3 ys)) := by
  have big : 1000 < sizeLine := by decide
  refine comp_range (fun n H' ys => Kp D H1 H' ∧ H' L = some (.lst ys) ∧ ∃ zs : List Str, ys = zs.map V.str ∧ zs.length = n ∧ ∀ z ∈ zs, ∃ c ∈ t.cps.toList, z = ⟨#[c]⟩) ⟨Kp.fresh DA hL (Kp.of DA (Same.refl _)), upd_same, [], rfl, rfl, fun z h => nomatch h⟩ (fun i H ys p => p.2.1) (fun i H ys hi p => ?_) (fun H ys p => ?_)
  · obtain ⟨kp, hl, zs, rfl, hz, hc⟩ := p
    refine s_name ⟨hwk _, i_yes (iteT ?_)⟩
    refine hstep _ H _ kp.dk fun c H'' hc' k2 => ?_
    refine NextC.mk (k2.strs kp.dk hl) hi (by rw [List.length_map]; omega) ⟨Kp.fresh DA hL (kp.trans k2), upd_same, zs ++ [⟨#[c]⟩], by simp, by simp [hz], fun z hz' => ?_⟩
    rcases List.mem_append.mp hz' with h | h
    · exact hc z h
    · rw [List.mem_singleton] at h
      exact ⟨c, hc', h⟩
  · obtain ⟨kp, hl, zs, rfl, hz, hc⟩ := p
    exact hd H zs hz hc kp hl
theorem letters_flat {T : List Nat} : ∀ (zs : List Str), (∀ z ∈ zs, ∃ c ∈ T, z = ⟨#[c]⟩) → ((zs.map (·.cps.toList)).flatten).length = zs.length ∧ (∀ c ∈ (zs.map (·.cps.toList)).flatten, c ∈ T) ∧ (zs.map (·.length)).sum = zs.length
  | [], _ => ⟨rfl, fun c h => (List.not_mem_nil h).elim, rfl⟩
  | z :: zs, h => by
    obtain ⟨c, hc, rfl⟩ := h z (by simp)
    obtain ⟨e1, e2, e3⟩ := letters_flat zs fun z hz => h z (List.mem_cons_of_mem _ hz)
    refine ⟨?_, fun d hd => ?_, ?_⟩
    · simp only [List.map_cons, List.flatten_cons, List.length_append, e1, List.length_cons]
      show (#[c] : Array Nat).toList.length + zs.length = _
      simp
      omega
    · simp only [List.map_cons, List.flatten_cons, List.mem_append] at hd
      rcases hd with hd | hd
      · have : d = c := by simpa using hd
        rw [this]; exact hc
      · exact e2 d hd
    · simp only [List.map_cons, List.sum_cons, List.length_cons, e3]
      show (#[c] : Array Nat).size + zs.length = _
      simp
      omega
theorem join_size {T : List Nat} {zs : List Str} (h : ∀ z ∈ zs, ∃ c ∈ T, z = ⟨#[c]⟩) : (Txt.join Str.empty zs).cps.size = zs.length ∧ ∀ c ∈ (Txt.join Str.empty zs).cps.toList, c ∈ T := by
  obtain ⟨e1, e2, _⟩ := letters_flat zs h
  rw [← Array.length_toList, glued_nil]
  exact ⟨e1, e2⟩
noncomputable def spStanding : Sp := fun vs H Q _ => ∃ (D : Dk) (a li lg : Addr) (ins : List Str) (gvs : List V) (gs : List (Str × Rl)), vs = [.ref D.d, .ref a] ∧ D.At H ∧ NAt H a li lg ins gvs gs ∧ NetOk ins gs ∧ ∀ z H', StOk (wiresN ins gs).length z → Kp D H H' → Q (.str z) H'
theorem atI_str {t : Str} {r : Int} (h0 : 0 ≤ r) (h1 : r < t.cps.size) : ∃ c, atI t.cps.toList r = some c ∧ c ∈ t.cps.toList := by
  have hr : r.toNat < t.cps.toList.length := by rw [Array.length_toList]; omega
  refine ⟨t.cps.toList[r.toNat], ?_, List.getElem_mem hr⟩
  have e : r = ((r.toNat : Nat) : Int) := by omega
  have q := atI_nat (xs := t.cps.toList) (j := r.toNat) (v := t.cps.toList[r.toNat]) (List.getElem?_eq_getElem hr)
  rw [← e] at q
  exact q
section
variable {P : Program} {w : World} {K : PySem.W.Frag} {mg : Str → Option Value} {base : Heap} {TT : Addr}
theorem sc_law_standing : FnScope ["store", "net"] ["store", "net"] (defScope (top 42)) := ⟨rfl, rfl, rfl, by decide +kernel, rfl, by decide +kernel, by decide +kernel⟩
theorem ok_standing {f : Addr} {fd : FuncData} (Fu : Fun K "_law_standing" "_law_standing" (top 42) f fd) (T : Txt K mg TT) (f_law_take : Fn P w K mg base "_law_take" ["store", "many"] 1 spDraw) : FnOk P w K mg base CX0 2 f fd ["store", "net"] spStanding := by
  have S := sc_law_standing
  refine Fu.ok S (fun vs H Q E h => ?_) (fun cdv A outer s H vs Q E hr h => ?_)
  · obtain ⟨D, a, li, lg, ins, gvs, gs, rfl, _⟩ := h
    rfl
  · obtain ⟨D, a, li, lg, ins, gvs, gs, rfl, DA, NA, ok, k⟩ := h
    obtain ⟨ha, hi, hg, gts⟩ := id NA
    have lg' := paired_len gts
    have i4 := ok.i4
    have g7 := ok.g7
    refine ⟨_, (pss_one (ps_ret (pe_bm PySem.F.plainAttrs_str PySem.F.slot_str_join PySem.F.type_str_join mt_join pe_str (pa_cons (pe_lc (tgs := ["k"]) (cap := [("store", 0)]) rfl ⟨rfl, rfl, rfl, rfl, rfl, rfl⟩ (pi_range1 (by rfl) T.n_range (pa_cons (pe_op op_add (pe_callB call_len_seq (by rfl) T.n_len PySem.boot_len (pa_cons (pe_ix ix_tup (pv 1) pe_int (fun _ _ => rfl)) pa_nil)) (pe_callB call_len_seq (by rfl) T.n_len PySem.boot_len (pa_cons (pe_ix ix_tup (pv 1) pe_int (fun _ _ => rfl)) pa_nil))) pa_nil)) (fun _ _ _ _ => (pg_name (i := 0) (show List.Nodup [("k" : Str), ("store" : Str)] by decide +kernel) rfl (by first | exact Or.inl rfl | exact Or.inr rfl))) (fun _ _ _ _ => pifs_nil) (fun _ _ _ _ => (pe_ix ix_str pe_str (pe_fn f_law_take (hr.mono (by first | decide | omega)) (by rfl) (pa_cons (pv 1) (pa_cons pe_int pa_nil))) (fun _ _ => rfl)))) pa_nil)))), ?_⟩
    try dsimp only [cxOf, Cx.nox, Cx.wish]
    rw [show L2.start ["store", "net"] [V.ref D.d, V.ref a] = [some (.ref D.d), some (.ref a)] from rfl]
    repeat walk_at "vc"
    refine ⟨rfl, ?_⟩
    repeat walk_at "vc"
    refine i_comp ?_
    repeat walk_at "vc"
    have en : ((ins.map V.str).length : Int) + (gvs.length : Int) = (((wiresN ins gs).length : Nat) : Int) := by
      unfold wiresN
      rw [List.length_append, List.length_map, List.length_map, lg']
      rfl
    have wl : (wiresN ins gs).length < 1000 := by
      unfold wiresN
      rw [List.length_append, List.length_map]
      omega
    rw [en]
    refine ⟨_, rfl, by omega, by omega, fun L hL => ?_⟩
    rw [Int.toNat_natCast]
    refine comp_letters (t := "01") DA hL (by omega) (fun x => ⟨rfl, trivial⟩) (fun i H' Q' DA' kq => ?_) (fun H' zs hz hc kp hl => ?_)
    · show tOp _ _ _ _ _ _
      repeat walk_at "vc"
      refine ⟨D, 2, rfl, DA', by decide, by decide, fun r H2 r0 r1 k2 => ?_⟩
      have z2 : (("01" : Str).cps.size : Int) = 2 := by decide +kernel
      obtain ⟨c, e, hc⟩ := atI_str (t := "01") r0 (by rw [z2]; exact r1)
      exact i_ixS (by decide +kernel) e (kq c H2 hc k2)
    · obtain ⟨e1, e2⟩ := join_size hc
      obtain ⟨_, _, e3⟩ := letters_flat zs hc
      refine i_nil ⟨"", L, zs, rfl, rfl, SqL.of hl, ?_, ?_⟩
      · have : ("" : Str).length = 0 := by decide +kernel
        rw [e3, this]
        omega
      · have e0 : ("" : Str) = Str.empty := by decide +kernel
        rw [e0]
        refine k _ H' ⟨by rw [e1, hz], fun c hc' => ?_⟩ kp
        have := e2 c hc'
        have hh : ∀ c ∈ ("01" : Str).cps.toList, c = 48 ∨ c = 49 := by decide +kernel
        exact hh c this
end
end K2
set_option Elab.async false
set_option linter.all false
set_option maxRecDepth 100000
set_option maxHeartbeats 1000000
namespace XE
open PySem PySem.SeqAt PySem.MeetsSeq
open AutoSeq1 (wpAny_loadPart')
section
variable {A : Around} {s : Shared}
end
end XE
namespace L2
open PySem PySem.Spec PyProof.Rows PySem.Calls
noncomputable def chs (z : Str) : List V := z.cps.toList.map fun c => .str ⟨#[c]⟩
theorem vals_signs {z : Str} {acc : Array Value} (h : ItemsOf (SignAt z) acc z.cps.size) : Vals (chs z) acc.toList := by
  have key : ∀ (cs : List Nat) (us : List Value), cs.length = us.length → (∀ (j : Nat) (u : Value), us[j]? = some u → ∃ c t, cs[j]? = some c ∧ u = .str ⟨#[c]⟩ t) → Vals (cs.map fun c => V.str ⟨#[c]⟩) us := by
    intro cs
    induction cs with
    | nil =>
      intro us hl _
      cases us with
      | nil => exact .nil
      | cons u us => simp at hl
    | cons c cs ih =>
      intro us hl h
      cases us with
      | nil => simp at hl
      | cons u us =>
        refine .cons ?_ (ih us (by simpa using hl) fun j u' q => ?_)
        · obtain ⟨c', t, e1, e2⟩ := h 0 u rfl
          have : c = c' := by simpa using e1
          subst this
          exact ⟨t, e2⟩
        · obtain ⟨c', t, e1, e2⟩ := h (j + 1) u' (by simpa using q)
          exact ⟨c', t, by simpa using e1, e2⟩
  refine key _ _ (by simp [h.1]) fun j u q => ?_
  obtain ⟨c, t, e1, e2⟩ := h.2 j u (by simpa using q)
  exact ⟨c, t, by simpa using e1, e2⟩
section
variable {X : Cx}
theorem chs_len (z : Str) : (chs z).length = z.length := by
  unfold chs
  rw [List.length_map]
  exact Array.length_toList
theorem call_list_txt (hc : X.calm = true) : CallR X (.type "list") (fun xs H Q => ∃ z, xs = [.str z] ∧ z.length ≤ sizeLine ∧ ∀ l, H l = none → Q (.ref l) (upd H l (.lst (chs z)))) := by
  intro pins s σ H xs us Q I r h
  obtain ⟨z, rfl, hz, q⟩ := h
  obtain ⟨u, rfl, t, rfl⟩ := vals1 r
  refine call_list_str (I.ok.hd hc) z t (fun h' tk acc c' kp e it => ?_) hz
  have rr := vals_signs it
  exact ⟨.ref s.heap.objs.size, _, I.laid (t' := tk) kp (Nat.le_refl _) (show ObjOk X.prog X.w _ h' _ (.lst (chs z)) from ⟨by rw [chs_len]; exact hz, acc.toList, c', rr, by simpa using e⟩), rfl, q _ (I.hok.fresh (Nat.le_refl _))⟩
end
end L2
set_option Elab.async false
set_option linter.all false
set_option maxRecDepth 100000
set_option maxHeartbeats 4000000
namespace K2
open PySem L2
local macro_rules | `(tactic| walk_at "vc") => `(tactic| first
  | (with_reducible refine s_seq ?_) | (with_reducible refine s_asg ?_) | (with_reducible refine s_name ?_) | (with_reducible refine s_drop ?_) | (with_reducible refine s_ret ?_) | (with_reducible refine s_if ?_) | (with_reducible refine s_sub ?_) | (with_reducible refine s_next ?_)
  | ((with_reducible refine' i_var ?hv ?_); (case hv => exact rfl)) | (with_reducible refine i_c ?_) | (with_reducible refine i_op ?_) | (with_reducible refine i_rI0 ?_) | (with_reducible refine i_test ?_) | (with_reducible refine i_tB ?_) | (with_reducible refine i_and ?_) | (with_reducible refine i_or ?_)
  | (with_reducible refine i_not ?_) | (with_reducible refine i_andV ?_) | (with_reducible refine i_orV ?_) | (with_reducible refine i_notV ?_) | (with_reducible refine i_ifE ?_) | (with_reducible refine i_nil ?_) | (with_reducible refine i_cons ?_) | (with_reducible refine i_call ?_) | (with_reducible refine i_cb ?_)
  | (with_reducible refine i_tup ?_) | (with_reducible refine i_lst ?_) | (with_reducible refine i_bm ?_) | (with_reducible refine i_sl ?_) | (with_reducible refine i_nopart ?_) | (with_reducible refine i_part ?_) | ((with_reducible show ∃ i, V.int _ = V.int i ∧ _); (refine ⟨_, rfl, ?_⟩)) | ((with_reducible show ∃ k, V.bl _ = V.bl k ∧ _); (refine ⟨_, rfl, ?_⟩)) | ((with_reducible show (∃ i, [V.bl _] = [V.int i] ∧ _) ∨ _); (refine Or.inr ⟨_, rfl, ?_⟩))
  | (with_reducible refine s_for ?_) | (with_reducible refine s_rng1 ?_) | (with_reducible refine s_list ?_) | (with_reducible refine s_str ?_) | (with_reducible refine s_strI ?_) | (with_reducible refine iteF ?_) | (with_reducible refine iteT ?_)
  | ((with_reducible refine' i_ixL ?ha ?hb ?_); (case ha => exact SqL.of (by assumption)); (case hb => exact rfl)) | ((with_reducible refine' i_ixT ?ha ?hb ?_); (case ha => assumption); (case hb => exact rfl))
  | ((with_reducible show ∃ p _, [V.ref _] = [V.ref p] ∧ (SqL _ _ _ _ ∨ SqT _ _ _ _) ∧ _); (refine' ⟨_, _, rfl, Or.inl (SqL.of ?ha), ?_⟩); (case ha => assumption)) | ((with_reducible refine' s_setL ?ha ?hb ?_); (case ha => assumption); (case hb => exact rfl))
  | ((with_reducible refine' i_eq ?ha ?_); (case ha => exact rfl)) | ((with_reducible refine' i_ne ?ha ?_); (case ha => exact rfl))
  | (with_reducible refine i_dget ?_) | (with_reducible refine i_yes ?_) | ((with_reducible show ∃ z, V.str _ = V.str z ∧ _); (refine ⟨_, rfl, ?_⟩))
  | (with_reducible refine i_un ?_) | (with_reducible refine i_rU ?_)
  | ((with_reducible refine' i_rI ?hv ?_); (case hv => first | decide | (dsimp only; omega) | exact .inl ⟨by omega, by omega⟩ | exact .inr ⟨by omega, by omega⟩ | exact ⟨by decide, by decide⟩ | exact ⟨by decide, by decide, by decide⟩ | exact ⟨by omega, by omega⟩))
  | ((with_reducible show ∃ i, [V.int _] = [V.int i] ∧ _); (refine ⟨_, rfl, ?_⟩))
  | ((with_reducible show tyV _ "list" _ _ ∧ _); (refine' ⟨i_tyL ?ha, ?_⟩); (case ha => assumption)))

theorem filt_range {xs : Array Nat} : ∀ (j a : Nat), a + j ≤ xs.size → ((List.range j).map fun k => a + k).filterMap (xs[·]?) = (xs.toList.drop a).take j
  | 0, a, _ => by simp
  | j + 1, a, h => by
    rw [List.range_succ, List.map_append, List.filterMap_append, filt_range j a (by omega), List.take_succ]
    have e : (xs.toList.drop a)[j]? = xs[a + j]? := by rw [List.getElem?_drop]; simp
    rw [e]
    have q : xs[a + j]? = some (xs[a + j]'(by omega)) := by rw [Array.getElem?_eq_getElem]
    simp [q]
theorem slice_list {z : Str} {a b : Nat} {lo hi : Option Int} (hl : PySem.Builtin.Str.strSliceIndices lo hi 1 z.length = (List.range (b - a)).map fun k => a + k) (hb : b ≤ z.cps.size) (hab : a ≤ b) : (Txt.slice z lo hi).cps.toList = (z.cps.toList.drop a).take (b - a) := by
  unfold Txt.slice
  rw [hl]
  split
  · rename_i h
    have h : b - a = z.length := by simpa using h
    have h' : z.length = z.cps.size := rfl
    have a0 : a = 0 := by omega
    subst a0
    rw [List.drop_zero, List.take_of_length_le (by rw [Array.length_toList]; omega)]
  · exact filt_range (b - a) a (by omega)
theorem slice_to {z : Str} {j : Nat} (h : j ≤ z.cps.size) : (Txt.slice z none (some (j : Int))).cps.toList = z.cps.toList.take j := by
  have h' : z.length = z.cps.size := rfl
  refine (slice_list (a := 0) (b := j) ?_ h (Nat.zero_le _)).trans (by simp)
  unfold PySem.Builtin.Str.strSliceIndices sliceRange
  have e : max 0 (min (if (j : Int) < 0 then (j : Int) + z.length else (j : Int)) (z.length : Int)) = (j : Int) := by
    rw [if_neg (Int.not_lt.mpr (Int.natCast_nonneg _)), Int.min_eq_left (show _ ≤ (z.length : Int) from Int.ofNat_le.mpr h), Int.max_eq_right (Int.natCast_nonneg _)]
  simp only [show (1 : Int) > 0 from by decide, if_true, e]
  have c : (if (0 : Int) < (j : Int) then ((j : Int) - 0 + 1 - 1) / 1 else 0).toNat = j - 0 := by
    rw [Int.ediv_one, Int.add_sub_cancel, Int.sub_zero, Nat.sub_zero]
    split
    · rfl
    · omega
  rw [c]
  refine List.map_congr_left fun k _ => ?_
  omega
theorem slice_from {z : Str} {a : Nat} (h : a ≤ z.cps.size) : (Txt.slice z (some (a : Int)) none).cps.toList = z.cps.toList.drop a := by
  have h' : z.length = z.cps.size := rfl
  refine (slice_list (a := a) (b := z.cps.size) ?_ (Nat.le_refl _) h).trans (by rw [List.take_of_length_le (by rw [List.length_drop, Array.length_toList]; omega)])
  unfold PySem.Builtin.Str.strSliceIndices sliceRange
  have e : max 0 (min (if (a : Int) < 0 then (a : Int) + z.length else (a : Int)) (z.length : Int)) = (a : Int) := by
    rw [if_neg (Int.not_lt.mpr (Int.natCast_nonneg _)), Int.min_eq_left (show _ ≤ (z.length : Int) from Int.ofNat_le.mpr h), Int.max_eq_right (Int.natCast_nonneg _)]
  simp only [show (1 : Int) > 0 from by decide, if_true, e]
  have c : (if (a : Int) < (z.length : Int) then ((z.length : Int) - (a : Int) + 1 - 1) / 1 else 0).toNat = z.cps.size - a := by
    rw [Int.ediv_one, Int.add_sub_cancel, h']
    split
    · rw [← Int.ofNat_sub h]; rfl
    · omega
  rw [c]
  refine List.map_congr_left fun k _ => ?_
  omega
theorem slice_back {z : Str} (h : 1 ≤ z.cps.size) : (Txt.slice z none (some (-1))).cps.toList = z.cps.toList.take (z.cps.size - 1) := by
  have h' : z.length = z.cps.size := rfl
  refine (slice_list (a := 0) (b := z.cps.size - 1) ?_ (by omega) (Nat.zero_le _)).trans (by simp)
  unfold PySem.Builtin.Str.strSliceIndices sliceRange
  have e : max 0 (min (if (-1 : Int) < 0 then (-1 : Int) + z.length else (-1 : Int)) (z.length : Int)) = ((z.cps.size - 1 : Nat) : Int) := by
    rw [if_pos (by decide), h', show (-1 : Int) + (z.cps.size : Int) = ((z.cps.size - 1 : Nat) : Int) by rw [Int.ofNat_sub h]; exact Int.add_comm _ _, Int.min_eq_left (Int.ofNat_le.mpr (Nat.sub_le _ _)), Int.max_eq_right (Int.natCast_nonneg _)]
  simp only [show (1 : Int) > 0 from by decide, if_true, e]
  have c : (if (0 : Int) < ((z.cps.size - 1 : Nat) : Int) then (((z.cps.size - 1 : Nat) : Int) - 0 + 1 - 1) / 1 else 0).toNat = z.cps.size - 1 - 0 := by
    rw [Int.ediv_one, Int.add_sub_cancel, Int.sub_zero, Nat.sub_zero]
    generalize z.cps.size - 1 = m
    split
    · rfl
    · omega
  rw [c]
  refine List.map_congr_left fun k _ => ?_
  omega
theorem lapS (a b : Str) : (a ++ b).length = a.length + b.length := by show (a.cps ++ b.cps).size = _; rw [Array.size_append]; rfl
theorem len_to {z : Str} {j : Nat} (h : j ≤ z.length) : (Txt.slice z none (some (j : Int))).length = j := by
  have e := congrArg List.length (slice_to (z := z) (j := j) h)
  rw [Array.length_toList, List.length_take, Array.length_toList] at e
  have h' : z.length = z.cps.size := rfl
  show (Txt.slice z none (some (j : Int))).cps.size = j
  omega
theorem len_from {z : Str} {j : Nat} (h : j ≤ z.length) : (Txt.slice z (some (j : Int)) none).length = z.length - j := by
  have e := congrArg List.length (slice_from (z := z) (a := j) h)
  rw [Array.length_toList, List.length_drop, Array.length_toList] at e
  exact e
theorem len_back {z : Str} (h : 1 ≤ z.length) : (Txt.slice z none (some (-1))).length = z.length - 1 := by
  have e := congrArg List.length (slice_back (z := z) h)
  rw [Array.length_toList, List.length_take, Array.length_toList] at e
  have h' : z.length = z.cps.size := rfl
  show (Txt.slice z none (some (-1))).cps.size = z.length - 1
  omega
theorem mid_sign {z x c y : Str} (hx : x.length ≤ 100) (hz : z = (x ++ c) ++ y) (hc : c.length = 1) : z.cps.getD x.length 0 = c.cps.getD 0 0 := by
  subst hz
  have e : ((x ++ c) ++ y).cps = (x.cps ++ c.cps) ++ y.cps := rfl
  rw [e]
  have h1 : x.length = x.cps.size := rfl
  have h2 : c.length = c.cps.size := rfl
  unfold Array.getD
  simp only [Array.size_append]
  rw [dif_pos (by omega), dif_pos (by omega)]
  rw [Array.getInternal_eq_getElem, Array.getInternal_eq_getElem, Array.getElem_append_left (by rw [Array.size_append]; omega), Array.getElem_append_right (by omega)]
  congr 1
  omega
theorem bad_len {K : PySem.W.Frag} {H : Hp} {n : Nat} {z : Str} (h : z.length ≤ 1000) (ne : z.length ≠ n) : BadT K H n (.str z) := .inr ⟨z, rfl, h, .inl ne⟩
theorem bad_mid {K : PySem.W.Frag} {H : Hp} {n : Nat} {x c y : Str} (hx : x.length ≤ 100) (hy : y.length ≤ 100) (hc : c.length = 1) (h0 : c.cps.getD 0 0 ≠ 48) (h1 : c.cps.getD 0 0 ≠ 49) : BadT K H n (.str ((x ++ c) ++ y)) := by
  have e := mid_sign hx rfl hc (y := y)
  refine .inr ⟨_, rfl, by rw [lapS, lapS]; omega, .inr ⟨x.length, by rw [lapS, lapS]; omega, ?_, ?_⟩⟩
  · rw [e]; exact h0
  · rw [e]; exact h1
theorem bad_ty {K : PySem.W.Frag} {H : Hp} {n : Nat} {v : V} {t : Value} (a : TyOf K H v t) (b : PySem.W.kitOne K t (.type "str") = some false) : BadT K H n v := .inl ⟨t, a, b⟩
structure NoStr (K : PySem.W.Frag) : Prop where
  non : PySem.W.kitOne K (.type "NoneType") (.type "str") = some false
  int : PySem.W.kitOne K (.type "int") (.type "str") = some false
  bl : PySem.W.kitOne K (.type "bool") (.type "str") = some false
  lst : PySem.W.kitOne K (.type "list") (.type "str") = some false
  tup : PySem.W.kitOne K (.type "tuple") (.type "str") = some false
  dct : PySem.W.kitOne K (.type "dict") (.type "str") = some false
noncomputable def BadD (K : PySem.W.Frag) (D : Dk) (H : Hp) (n : Nat) (v : V) : Prop := BadT K H n v ∧ ∀ a, v = .ref a → ¬ D.own a
theorem tyof_kp {K : PySem.W.Frag} {D : Dk} {H H' : Hp} {v : V} {t : Value} (h : TyOf K H v t) (k : Kp D H H') (no : ∀ a, v = .ref a → ¬ D.own a) : TyOf K H' v t := by
  cases h with
  | non => exact .non
  | bl x => exact .bl x
  | int i => exact .int i
  | str x => exact .str x
  | flt x => exact .flt x
  | lst e => exact .lst (k.old _ _ e (no _ rfl))
  | frz e => exact .frz (k.old _ _ e (no _ rfl))
  | tup e => exact .tup (k.old _ _ e (no _ rfl))
  | dK e => exact .dK (k.old _ _ e (no _ rfl))
  | dT e => exact .dT (k.old _ _ e (no _ rfl))
  | ins e cl ha hn htk hm => exact .ins (k.old _ _ e (no _ rfl)) cl ha hn htk hm
theorem BadD.kp {K : PySem.W.Frag} {D : Dk} {H H' : Hp} {n : Nat} {v : V} (h : BadD K D H n v) (k : Kp D H H') : BadD K D H' n v :=
  ⟨h.1.imp (fun ⟨t, a, b⟩ => ⟨t, tyof_kp a k h.2, b⟩) id, h.2⟩
theorem nostr (K : PySem.W.Frag) : NoStr K := ⟨rfl, rfl, rfl, rfl, rfl, rfl⟩
theorem bad_one {K : PySem.W.Frag} {H : Hp} {n : Nat} {c : Str} (hc : c.length = 1) (h0 : c.cps.getD 0 0 ≠ 48) (h1 : c.cps.getD 0 0 ≠ 49) : BadT K H n (.str c) := .inr ⟨c, rfl, by omega, .inr ⟨0, by omega, h0, h1⟩⟩
noncomputable def spNoStV (K : PySem.W.Frag) : Sp := fun vs H Q _ => ∃ (D : Dk) (z : Str) (n : Nat), vs = [.ref D.d, .str z] ∧ D.At H ∧ 1 ≤ n ∧ n ≤ 40 ∧ StOk n z ∧ ∀ v H', BadD K D H' n v → Kp D H H' → Q v H'
theorem signs9 : ∀ c ∈ ("2 -aO~.>x" : Str).cps.toList, c ≠ 48 ∧ c ≠ 49 := by decide +kernel
section
variable {P : Program} {w : World} {K : PySem.W.Frag} {mg : Str → Option Value} {base : Heap} {TT : Addr}
theorem sc_law_no_standing : FnScope ["store", "standing", "at", "sign", "texts", "things"] ["store", "standing"] (defScope (top 50)) := ⟨rfl, rfl, rfl, by decide +kernel, rfl, by decide +kernel, by decide +kernel⟩
theorem ok_nostV {f : Addr} {fd : FuncData} (Fu : Fun K "_law_no_standing" "_law_no_standing" (top 50) f fd) (T : Txt K mg TT) (f_law_take : Fn P w K mg base "_law_take" ["store", "many"] 1 spDraw) : FnOk P w K mg base CX0 2 f fd ["store", "standing"] (spNoStV K) := by
  have S := sc_law_no_standing
  have nT := T.n_tuple
  have NS := nostr K
  refine Fu.ok S (fun vs H Q E h => ?_) (fun cdv A outer s H vs Q E hr h => ?_)
  · obtain ⟨D, z, n, rfl, _⟩ := h
    rfl
  · obtain ⟨D, z, n, rfl, DA, n1, n11, st, k⟩ := h
    refine' ⟨?_, ?bb, ?_⟩
    case bb =>
      refine' pss_cons ?s1 ?r1
      case s1 =>
        refine' ps_set (i := 2) ?n ?r ?l ?e ?s ?f
        case n => exact S.nd
        case r => rfl
        case l => first | exact Or.inl rfl | exact Or.inr rfl
        case s => rfl
        case f => first | exact Or.inl rfl | exact Or.inr rfl
        case e => exact (pe_fn f_law_take (hr.mono (by first | decide | omega)) (by rfl) (pa_cons (pv 0) (pa_cons (pe_callB call_len_str (by rfl) T.n_len PySem.boot_len (pa_cons (pv 1) pa_nil se_name)) pa_nil se_call) se_name))
      case r1 =>
        with_reducible refine' pss_cons ?s3 ?r3
        case s3 =>
          refine' ps_set (i := 3) ?n ?r ?l ?e ?s ?f
          case n => exact S.nd
          case r => rfl
          case l => first | exact Or.inl rfl | exact Or.inr rfl
          case s => rfl
          case f => first | exact Or.inl rfl | exact Or.inr rfl
          case e => exact (pe_ix ix_str pe_str (pe_fn f_law_take (hr.mono (by first | decide | omega)) (by rfl) (pa_cons (pv 0) (pa_cons pe_int pa_nil se_con) se_name)) (fun _ _ => rfl))
        case r3 =>
          with_reducible refine' pss_cons ?s5 ?r5
          case s5 =>
            refine' ps_set (i := 4) ?n ?r ?l ?e ?s ?f
            case n => exact S.nd
            case r => rfl
            case l => first | exact Or.inl rfl | exact Or.inr rfl
            case s => rfl
            case f => first | exact Or.inl rfl | exact Or.inr rfl
            case e =>
              with_reducible refine' pe_lst ?a7
              case a7 =>
                with_reducible refine' pa_cons ?e8 ?s8 se_bin
                case e8 =>
                  exact (pe_op op_add_str (pv 1) pe_str)
                case s8 =>
                  with_reducible refine' pa_cons ?e10 ?s10 se_bin
                  case e10 =>
                    exact (pe_op op_add_str (pv 1) pe_str)
                  case s10 =>
                    with_reducible refine' pa_cons ?e12 ?s12 se_sub
                    case e12 =>
                      exact (pe_slice sl_str (pv 1) po_none (po_some (pe_un un_neg pe_int)))
                    case s12 =>
                      with_reducible refine' pa_cons ?e14 ?s14 se_bin
                      case e14 =>
                        exact (pe_op op_add_str (pe_op op_add_str (pe_slice sl_str (pv 1) po_none (po_some (pv 2))) (pv 3)) (pe_slice sl_str (pv 1) (po_some (pe_op op_add (pv 2) pe_int)) po_none))
                      case s14 =>
                        with_reducible refine' pa_cons ?e16 ?s16 se_con
                        case e16 =>
                          exact pe_str
                        case s16 =>
                          with_reducible refine' pa_cons ?e18 ?s18 se_name
                          case e18 =>
                            exact (pv 3)
                          case s18 =>
                            exact pa_nil
          case r5 =>
            with_reducible refine' pss_cons ?s20 ?r20
            case s20 =>
              refine' ps_set (i := 5) ?n ?r ?l ?e ?s ?f
              case n => exact S.nd
              case r => rfl
              case l => first | exact Or.inl rfl | exact Or.inr rfl
              case s => rfl
              case f => first | exact Or.inl rfl | exact Or.inr rfl
              case e =>
                with_reducible refine' pe_lst ?a22
                case a22 =>
                  with_reducible refine' pa_cons ?e23 ?s23 se_con
                  case e23 =>
                    exact pe_non
                  case s23 =>
                    with_reducible refine' pa_cons ?e25 ?s25 se_con
                    case e25 =>
                      exact pe_int
                    case s25 =>
                      with_reducible refine' pa_cons ?e27 ?s27 se_con
                      case e27 =>
                        exact pe_int
                      case s27 =>
                        with_reducible refine' pa_cons ?e29 ?s29 se_con
                        case e29 =>
                          exact pe_bl
                        case s29 =>
                          with_reducible refine' pa_cons ?e31 ?s31 se_lst
                          case e31 =>
                            with_reducible refine' pe_lst ?a32
                            case a32 =>
                              with_reducible refine' pa_cons ?e33 ?s33 se_con
                              case e33 =>
                                exact pe_str
                              case s33 =>
                                exact pa_nil
                          case s31 =>
                            with_reducible refine' pa_cons ?e35 ?s35 se_tup
                            case e35 =>
                              with_reducible refine' pe_tup ?a36
                              case a36 =>
                                with_reducible refine' pa_cons ?e37 ?s37 se_con
                                case e37 =>
                                  exact pe_str
                                case s37 =>
                                  with_reducible refine' pa_cons ?e39 ?s39 se_con
                                  case e39 =>
                                    exact pe_str
                                  case s39 =>
                                    exact pa_nil
                            case s35 =>
                              with_reducible refine' pa_cons ?e41 ?s41 se_dict
                              case e41 =>
                                exact pe_dnewK
                              case s41 =>
                                with_reducible refine' pa_cons ?e43 ?s43 se_bin
                                case e43 =>
                                  exact (pe_op op_pow pe_int pe_int)
                                case s43 =>
                                  with_reducible refine' pa_cons ?e45 ?s45 se_call
                                  case e45 =>
                                    exact (pe_callTy (call_list_txt rfl) (by rfl) T.n_list PyProof.Rows.boot_list (pa_cons (pv 1) pa_nil se_name))
                                  case s45 =>
                                    exact pa_nil
            case r20 =>
              with_reducible refine' pss_one ?s47
              case s47 =>
                exact (ps_ret (pe_ix ix_list (pe_op op_cat (pv 4) (pv 5)) (pe_fn f_law_take (hr.mono (by first | decide | omega)) (by rfl) (pa_cons (pv 0) (pa_cons pe_int pa_nil se_con) se_name)) (fun _ _ => rfl)))
    try dsimp only [cxOf, Cx.nox, Cx.wish]
    rw [show L2.start ["store", "standing", "at", "sign", "texts", "things"] [V.ref D.d, V.str z] = [some (.ref D.d), some (.str z), none, none, none, none] from rfl]
    have big : 1000 < sizeLine := by decide
    have zl : z.length = n := st.len
    repeat walk_at "vc"
    refine ⟨_, rfl, by omega, ?_⟩
    repeat walk_at "vc"
    refine ⟨D, _, rfl, DA, by omega, by omega, fun r H0 r0 r1 k0 => ?_⟩
    obtain ⟨i, rfl⟩ : ∃ i : Nat, r = (i : Int) := ⟨r.toNat, by omega⟩
    repeat walk_at "vc"
    refine ⟨D, 9, rfl, k0.dk, by decide, by decide, fun r' H1 r0' r1' k1' => ?_⟩
    have z9 : (("2 -aO~.>x" : Str).cps.size : Int) = 9 := by decide +kernel
    obtain ⟨c, ec, cm⟩ := atI_str (t := "2 -aO~.>x") r0' (by rw [z9]; exact r1')
    refine i_ixS (by decide +kernel) ec ?_
    obtain ⟨c48, c49⟩ := signs9 c cm
    have k1 := k0.trans k1'
    have cl : (⟨#[c]⟩ : Str).length = 1 := rfl
    have cg : (⟨#[c]⟩ : Str).cps.getD 0 0 = c := rfl
    generalize hcs : (⟨#[c]⟩ : Str) = cs at *
    clear hcs
    have il : i < z.length := by omega
    have l0 : ("0" : Str).length = 1 := by decide +kernel
    have l1 : ("1" : Str).length = 1 := by decide +kernel
    have lt := len_to (z := z) (j := i) (by omega)
    have lf := len_from (z := z) (j := i + 1) (by omega)
    rw [show ((i + 1 : Nat) : Int) = (i : Int) + 1 from by omega] at lf
    have lb := len_back (z := z) (by omega)
    repeat walk_at "vc"
    refine ⟨_, _, rfl, rfl, by omega, ?_⟩
    repeat walk_at "vc"
    refine ⟨_, _, rfl, rfl, by omega, ?_⟩
    repeat walk_at "vc"
    refine i_slS (by omega) ?_
    repeat walk_at "vc"
    refine i_slS (by omega) ?_
    refine i_var rfl ?_
    refine ⟨_, _, rfl, rfl, by omega, ?_⟩
    repeat walk_at "vc"
    refine i_slS (by omega) ?_
    refine ⟨_, _, rfl, rfl, by rw [lapS]; omega, ?_⟩
    repeat walk_at "vc"
    refine ⟨by simp [sizeLine], fun L1 hL1 => ?_⟩
    generalize hE : upd H1 L1 _ = H2
    obtain ⟨S2, q2⟩ := upd_pair hL1 hE
    clear hE
    repeat walk_at "vc"
    refine ⟨by simp [sizeLine], fun p3 hp3 => ?_⟩
    generalize hE : upd H2 p3 _ = H3
    obtain ⟨S3, q3⟩ := upd_pair hp3 hE
    clear hE
    repeat walk_at "vc"
    refine ⟨by simp [sizeLine], fun p4 hp4 => ?_⟩
    generalize hE : upd H3 p4 _ = H4
    obtain ⟨S4, q4⟩ := upd_pair hp4 hE
    clear hE
    repeat walk_at "vc"
    intro p5 hp5
    generalize hE : upd H4 p5 _ = H5
    obtain ⟨S5, q5⟩ := upd_pair hp5 hE
    clear hE
    repeat walk_at "vc"
    refine ⟨z, rfl, by omega, fun p6 hp6 => ?_⟩
    generalize hE : upd H5 p6 _ = H6
    obtain ⟨S6, q6⟩ := upd_pair hp6 hE
    clear hE
    repeat walk_at "vc"
    refine ⟨by simp [sizeLine], fun L2 hL2 => ?_⟩
    generalize hE : upd H6 L2 _ = H7
    obtain ⟨S7, q7⟩ := upd_pair hL2 hE
    clear hE
    repeat walk_at "vc"
    have S27 := S3.trans (S4.trans (S5.trans (S6.trans S7)))
    refine i_cat (S27 _ _ q2) q7 (by simp [sizeLine]) fun L3 hL3 => ?_
    generalize hxs : ([V.str _, _, _, _, _, _] ++ [V.non, _, _, _, _, _, _, _, _] : List V) = xs
    generalize hE : upd H7 L3 _ = H8
    obtain ⟨S8, q8⟩ := upd_pair hL3 hE
    clear hE
    have S18 := S2.trans (S27.trans S8)
    have xl : xs.length = 15 := by rw [← hxs]; rfl
    have e0 : ("" : Str).length = 0 := by decide +kernel
    have r3 := (S4.trans (S5.trans (S6.trans (S7.trans S8)))) _ _ q3
    have r4 := (S5.trans (S6.trans (S7.trans S8))) _ _ q4
    have r5 := (S6.trans (S7.trans S8)) _ _ q5
    have r6 := (S7.trans S8) _ _ q6
    have D1 := k1.dk
    have o3 : ¬ D.own p3 := notOwn_fresh D1 (Same.free S2 hp3)
    have o4 : ¬ D.own p4 := notOwn_fresh D1 (Same.free (S2.trans S3) hp4)
    have o5 : ¬ D.own p5 := notOwn_fresh D1 (Same.free (S2.trans (S3.trans S4)) hp5)
    have o6 : ¬ D.own p6 := notOwn_fresh D1 (Same.free (S2.trans (S3.trans (S4.trans S5))) hp6)
    have o8 : ¬ D.own L3 := notOwn_fresh D1 (Same.free (S2.trans S27) hL3)
    have all : ∀ x ∈ xs, BadD K D H8 n x := by
      rw [← hxs]
      simp only [List.forall_mem_append, List.forall_mem_cons, List.forall_mem_nil, and_true]
      repeat' (with_reducible apply And.intro)
      all_goals first
        | exact fun x h => nomatch h
        | exact ⟨bad_ty .non NS.non, fun a e => nomatch e⟩
        | exact ⟨bad_ty (.int _) NS.int, fun a e => nomatch e⟩
        | exact ⟨bad_ty (.bl _) NS.bl, fun a e => nomatch e⟩
        | exact ⟨bad_ty (.lst r3) NS.lst, fun a e => by cases e; exact o3⟩
        | exact ⟨bad_ty (.tup r4) NS.tup, fun a e => by cases e; exact o4⟩
        | exact ⟨bad_ty (.dK r5) NS.dct, fun a e => by cases e; exact o5⟩
        | exact ⟨bad_ty (.lst r6) NS.lst, fun a e => by cases e; exact o6⟩
        | exact ⟨bad_len (by rw [e0]; omega) (by rw [e0]; omega), fun a e => nomatch e⟩
        | exact ⟨bad_one cl (by rw [cg]; exact c48) (by rw [cg]; exact c49), fun a e => nomatch e⟩
        | exact ⟨bad_len (by omega) (by omega), fun a e => nomatch e⟩
        | exact ⟨bad_len (by rw [lapS]; omega) (by rw [lapS]; omega), fun a e => nomatch e⟩
        | exact ⟨bad_mid (by omega) (by omega) cl (by rw [cg]; exact c48) (by rw [cg]; exact c49), fun a e => nomatch e⟩
    clear hxs
    repeat walk_at "vc"
    have kp8 := k1.trans (Kp.of k1.dk S18)
    refine ⟨D, 15, rfl, kp8.dk, by decide, by decide, fun r9 H9 r90 r91 k9 => ?_⟩
    obtain ⟨j, rfl⟩ : ∃ j : Nat, r9 = (j : Int) := ⟨r9.toNat, by omega⟩
    have hj : j < xs.length := by omega
    refine i_ixL (v := xs[j]) (SqL.of (k9.old _ _ q8 o8)) (atI_nat (List.getElem?_eq_getElem hj)) ?_
    exact k _ H9 ((all _ (List.getElem_mem hj)).kp k9) (kp8.trans k9)
end
set_option Elab.async false
set_option linter.all false
set_option maxRecDepth 100000
set_option maxHeartbeats 4000000

noncomputable def spLaw (K : PySem.W.Frag) : Sp := fun vs H Q _ => ∃ (a : Addr) (ns : List Int), vs = [.ref a] ∧ SqL K H a (ns.map V.int) ∧ ns.length ≤ 63 ∧ ∀ H', Q (.bl true) H'
theorem seq_kp {K : PySem.W.Frag} {D : Dk} {H0 H1 H2 : Hp} {sc : Addr} {xs : List V} (h : SqL K H0 sc xs) (hD : H0 D.d = none) (S : Same H0 H1) (k : Kp D H1 H2) : SqL K H2 sc xs :=
  h.imp (fun q => q.imp (fun e => k.old _ _ (S _ _ e) fun z => by cases z; rw [hD] at e; cases e) (fun ⟨ob, e⟩ => ⟨ob, k.old _ _ (S _ _ e) fun z => by cases z; rw [hD] at e; cases e⟩)) id
theorem wlen (ins : List Str) (gs : List (Str × Rl)) : (wiresN ins gs).length = ins.length + gs.length := by unfold wiresN; rw [List.length_append, List.length_map]
section
variable {P : Program} {w : World} {K : PySem.W.Frag} {mg : Str → Option Value} {base : Heap} {TT : Addr}
theorem sc_law : FnScope ["script", "at", "store", "net", "standing", "paper", "thing", "way"] ["script"] (defScope (top 51)) := ⟨rfl, rfl, rfl, by decide +kernel, rfl, by decide +kernel, by decide +kernel⟩
theorem ok_law15 {f : Addr} {fd : FuncData} (Fu : Fun K "law" "law" (top 51) f fd) (T : Txt K mg TT) (f_law_cell : Fn P w K mg base "_law_cell" ["script", "k"] 1 (spCell K)) (f_law_store : Fn P w K mg base "_law_store" ["cell"] 1 spStore) (f_law_net : Fn P w K mg base "_law_net" ["store", "most"] 12 spNetV) (f_law_standing : Fn P w K mg base "_law_standing" ["store", "net"] 2 spStanding)
    (f_law_no_standing : Fn P w K mg base "_law_no_standing" ["store", "standing"] 2 (spNoStV K)) (f_law_refused : Fn P w K mg base "_law_refused" ["way", "net", "thing", "paper"] 5 (spRefV K)) : FnOk P w K mg base CX0 13 f fd ["script"] (spLaw K) := by
  have S := sc_law
  refine Fu.ok S (fun vs H Q E h => ?_) (fun cdv A outer s H vs Q E hr h => ?_)
  · obtain ⟨a, ns, rfl, _⟩ := h
    rfl
  · obtain ⟨sc, cells, rfl, hS, hlen, k⟩ := h
    refine' ⟨?_, ?bb, ?_⟩
    case bb =>
      refine' pss_cons ?s1 ?r1
      case s1 =>
        refine' ps_for PassesOwn.never rfl ?i2 ?g2 ?b2 ?h2
        case h2 => intro _; rfl
        case i2 => exact (pi_range1 (by rfl) T.n_range (pa_cons (pe_callB (call_min2 rfl) (by rfl) T.n_min PyProof.Rows.boot_min (pa_cons (pe_callB (call_max2 rfl) (by rfl) T.n_max PyProof.Rows.boot_max (pa_cons (pe_callB call_len_seq (by rfl) T.n_len PySem.boot_len (pa_cons (pv 0) pa_nil se_name)) (pa_cons pe_int pa_nil se_con) se_call)) (pa_cons pe_int pa_nil se_con) se_call)) pa_nil se_call))
        case g2 => exact (pg_name (i := 1) S.nd rfl (by first | exact Or.inl rfl | exact Or.inr rfl))
        case b2 =>
          with_reducible refine' pss_cons ?s3 ?r3
          case s3 =>
            refine' ps_set (i := 2) ?n ?r ?l ?e ?s ?f
            case n => exact S.nd
            case r => rfl
            case l => first | exact Or.inl rfl | exact Or.inr rfl
            case s => rfl
            case f => first | exact Or.inl rfl | exact Or.inr rfl
            case e => exact (pe_fn f_law_store (hr.mono (by first | decide | omega)) (by rfl) (pa_cons (pe_fn f_law_cell (hr.mono (by first | decide | omega)) (by rfl) (pa_cons (pv 0) (pa_cons (pv 1) pa_nil se_name) se_name)) pa_nil se_call))
          case r3 =>
            with_reducible refine' pss_cons ?s5 ?r5
            case s5 =>
              refine' ps_set (i := 3) ?n ?r ?l ?e ?s ?f
              case n => exact S.nd
              case r => rfl
              case l => first | exact Or.inl rfl | exact Or.inr rfl
              case s => rfl
              case f => first | exact Or.inl rfl | exact Or.inr rfl
              case e => exact (pe_fn f_law_net (hr.mono (by first | decide | omega)) (by rfl) (pa_cons (pv 2) (pa_cons pe_int pa_nil se_con) se_name))
            case r5 =>
              with_reducible refine' pss_cons ?s7 ?r7
              case s7 =>
                refine' ps_set (i := 4) ?n ?r ?l ?e ?s ?f
                case n => exact S.nd
                case r => rfl
                case l => first | exact Or.inl rfl | exact Or.inr rfl
                case s => rfl
                case f => first | exact Or.inl rfl | exact Or.inr rfl
                case e => exact (pe_fn f_law_standing (hr.mono (by first | decide | omega)) (by rfl) (pa_cons (pv 2) (pa_cons (pv 3) pa_nil se_name) se_name))
              case r7 =>
                with_reducible refine' pss_cons ?s9 ?r9
                case s9 =>
                  refine' ps_set (i := 5) ?n ?r ?l ?e ?s ?f
                  case n => exact S.nd
                  case r => rfl
                  case l => first | exact Or.inl rfl | exact Or.inr rfl
                  case s => rfl
                  case f => first | exact Or.inl rfl | exact Or.inr rfl
                  case e =>
                    exact (pe_callB call_sorted (by rfl) T.n_sorted PyProof.Rows.boot_sorted (pa_cons (pe_lst (pa_cons (pv 4) (pa_cons (pe_fn f_law_standing (hr.mono (by first | decide | omega)) (by rfl) (pa_cons (pv 2) (pa_cons (pv 3) pa_nil se_name) se_name)) pa_nil se_call) se_name)) pa_nil se_lst))
                case r9 =>
                  with_reducible refine' pss_cons ?s12 ?r12
                  case s12 =>
                    refine' ps_set (i := 6) ?n ?r ?l ?e ?s ?f
                    case n => exact S.nd
                    case r => rfl
                    case l => first | exact Or.inl rfl | exact Or.inr rfl
                    case s => rfl
                    case f => first | exact Or.inl rfl | exact Or.inr rfl
                    case e => exact (pe_fn f_law_no_standing (hr.mono (by first | decide | omega)) (by rfl) (pa_cons (pv 2) (pa_cons (pv 4) pa_nil se_name) se_name))
                  case r12 =>
                    with_reducible refine' pss_one ?s14
                    case s14 =>
                      refine' ps_for PassesOwn.never rfl ?i15 ?g15 ?b15 ?h15
                      case h15 => intro _; rfl
                      case i15 => exact (pi_range1 (by rfl) T.n_range (pa_cons pe_int pa_nil se_con))
                      case g15 => exact (pg_name (i := 7) S.nd rfl (by first | exact Or.inl rfl | exact Or.inr rfl))
                      case b15 =>
                        with_reducible refine' pss_one ?s16
                        case s16 =>
                          with_reducible refine' ps_if ?c17 ?a17 ?o17
                          case c17 => exact (pt_not (pt_val (pe_fn f_law_refused (hr.mono (by first | decide | omega)) (by rfl) (pa_cons (pv 7) (pa_cons (pv 3) (pa_cons (pv 6) (pa_cons (pv 5) pa_nil se_name) se_name) se_name) se_name))))
                          case a17 =>
                            with_reducible refine' pss_one ?s18
                            case s18 =>
                              exact (ps_ret pe_bl)
                          case o17 =>
                            exact pss_nil
      case r1 =>
        with_reducible refine' pss_one ?s20
        case s20 =>
          exact (ps_ret pe_bl)
    try dsimp only [cxOf, Cx.nox, Cx.wish]
    rw [show L2.start ["script", "at", "store", "net", "standing", "paper", "thing", "way"] [V.ref sc] = [some (.ref sc), none, none, none, none, none, none, none] from rfl]
    have big : 1000 < sizeLine := by decide
    repeat walk_at "vc"
    refine ⟨_, _, rfl, Or.inl hS, ?_⟩
    repeat walk_at "vc"
    refine ⟨_, _, rfl, ?_⟩
    repeat walk_at "vc"
    refine ⟨_, _, rfl, ?_⟩
    rw [List.length_map]
    obtain ⟨N, hN, N12⟩ : ∃ N : Nat, (if (12 : Int) < (if (3 : Int) > (cells.length : Int) then (3 : Int) else (cells.length : Int)) then (12 : Int) else (if (3 : Int) > (cells.length : Int) then (3 : Int) else (cells.length : Int))) = (N : Int) ∧ N ≤ 12 := by
      by_cases h1 : (3 : Int) > (cells.length : Int)
      · rw [if_pos h1, if_neg (by decide)]; exact ⟨3, rfl, by omega⟩
      · rw [if_neg h1]
        by_cases h2 : (12 : Int) < (cells.length : Int)
        · rw [if_pos h2]; exact ⟨12, rfl, by omega⟩
        · rw [if_neg h2]; exact ⟨cells.length, rfl, by omega⟩
    rw [hN]
    repeat walk_at "vc"
    refine ⟨by omega, by omega, ?_⟩
    rw [Int.toNat_natCast]
    refine for_range (n := N) (fun i σ H' => (∃ x1 x2 x3 x4 x5 x6 x7, σ = [some (.ref sc), x1, x2, x3, x4, x5, x6, x7]) ∧ SqL K H' sc (cells.map V.int)) ⟨⟨_, _, _, _, _, _, _, rfl⟩, hS⟩ (fun i σ H' hi pv => ?_) (fun σ H' pv => ?_)
    · obtain ⟨⟨x1, x2, x3, x4, x5, x6, x7, rfl⟩, hS'⟩ := pv
      refine s_name ?_
      repeat walk_at "vc"
      refine ⟨sc, cells, i, by rw [Int.zero_add], hS', by omega, fun c => ?_⟩
      repeat walk_at "vc"
      refine ⟨c, rfl, fun D H1 S1 nD DA1 => ?_⟩
      repeat walk_at "vc"
      refine ⟨D, rfl, DA1, fun a li lg ins gvs gs H2 NA ok i4 g7 k2 => ?_⟩
      repeat walk_at "vc"
      refine ⟨D, a, li, lg, ins, gvs, gs, rfl, k2.dk, NA, ok, fun z H3 sz k3 => ?_⟩
      have NA3 := NA.kp k2.dk k3
      have wl := wlen ins gs
      have g1 := ok.g1
      repeat walk_at "vc"
      refine ⟨D, a, li, lg, ins, gvs, gs, rfl, k3.dk, NA3, ok, fun z2 H4 sz2 k4 => ?_⟩
      have NA4 := NA3.kp k3.dk k4
      repeat walk_at "vc"
      refine ⟨by simp [sizeLine], fun p5 hp5 => ?_⟩
      generalize hE : upd H4 p5 _ = H5
      obtain ⟨S5, q5⟩ := upd_pair hp5 hE
      clear hE
      repeat walk_at "vc"
      refine ⟨p5, [z, z2], rfl, q5, by show 2 < 64; decide, fun p6 ss' hp6 _ _ => ?_⟩
      generalize hE : upd H5 p6 _ = H6
      obtain ⟨S6, q6⟩ := upd_pair hp6 hE
      clear hE
      have S46 := S5.trans S6
      have k46 := Kp.of k4.dk S46
      have NA6 := NA4.same S46
      repeat walk_at "vc"
      refine ⟨D, z, _, rfl, k46.dk, by omega, by omega, sz, fun v H7 bv k7 => ?_⟩
      have NA7 := NA6.kp k46.dk k7
      have kall := k2.trans (k3.trans (k4.trans (k46.trans k7)))
      have hS7 := seq_kp hS' nD S1 kall
      have bd := bv.1
      repeat walk_at "vc"
      refine ⟨by decide, by decide, ?_⟩
      refine for_range (n := 3) (fun j σ H' => (∃ x7, σ = [some (.ref sc), some (.int (0 + i)), some (.ref D.d), some (.ref a), some (.str z), some (.ref p6), some v, x7]) ∧ Same H7 H') ⟨⟨_, rfl⟩, Same.refl _⟩ (fun j σ H' hj pv => ?_) (fun σ H' pv => ?_)
      · obtain ⟨⟨x7, rfl⟩, Sm⟩ := pv
        refine s_name ?_
        repeat walk_at "vc"
        refine ⟨j, a, li, lg, ins, gvs, gs, v, .ref p6, by rw [Int.zero_add], hj, NA7.same Sm, ok, bd.same Sm, fun H8 S8 => ?_⟩
        refine ⟨_, rfl, ifF (by rfl) ?_⟩
        repeat walk_at "vc"
        exact ⟨⟨_, rfl⟩, Sm.trans S8⟩
      · obtain ⟨⟨x7, rfl⟩, Sm⟩ := pv
        exact ⟨⟨_, _, _, _, _, _, _, rfl⟩, Sm.seq hS7⟩
    · obtain ⟨⟨x1, x2, x3, x4, x5, x6, x7, rfl⟩, hS'⟩ := pv
      exact k H'
end
end K2
set_option Elab.async false
set_option linter.all false
set_option maxRecDepth 100000
set_option maxHeartbeats 4000000
namespace K2
open PySem L2 PySem.Spec PyProof.Rows
theorem len_1 {A : Type} {us : List A} (h : us.length = 1) : ∃ a0, us = [a0] := by
  match us, h with
  | [a0], _ => exact ⟨_, rfl⟩
theorem len_2 {A : Type} {us : List A} (h : us.length = 2) : ∃ a0 a1, us = [a0, a1] := by
  match us, h with
  | [a0, a1], _ => exact ⟨_, _, rfl⟩
theorem len_3 {A : Type} {us : List A} (h : us.length = 3) : ∃ a0 a1 a2, us = [a0, a1, a2] := by
  match us, h with
  | [a0, a1, a2], _ => exact ⟨_, _, _, rfl⟩
theorem len_4 {A : Type} {us : List A} (h : us.length = 4) : ∃ a0 a1 a2 a3, us = [a0, a1, a2, a3] := by
  match us, h with
  | [a0, a1, a2, a3], _ => exact ⟨_, _, _, _, rfl⟩
theorem len_5 {A : Type} {us : List A} (h : us.length = 5) : ∃ a0 a1 a2 a3 a4, us = [a0, a1, a2, a3, a4] := by
  match us, h with
  | [a0, a1, a2, a3, a4], _ => exact ⟨_, _, _, _, _, rfl⟩
theorem len_6 {A : Type} {us : List A} (h : us.length = 6) : ∃ a0 a1 a2 a3 a4 a5, us = [a0, a1, a2, a3, a4, a5] := by
  match us, h with
  | [a0, a1, a2, a3, a4, a5], _ => exact ⟨_, _, _, _, _, _, rfl⟩
theorem all_mk {l : PySem.W.OpenLaw} {w : World} {K : PySem.W.Frag} {h : Heap} {mg : Str → Option Value} {fa TT f0 f1 f2 f3 f4 f5 f6 f7 f8 f9 f10 f11 f12 f13 f14 f15 f16 f17 f18 : Addr} (X : K.In h) (G : h.Ns mainGlobals mg) (hfa : mg "law" = some (.ref fa))
    {od0 an0 od1 an1 od2 an2 od3 an3 od4 an4 od5 an5 od6 an6 od7 an7 od8 an8 od9 an9 od10 an10 od11 an11 od12 an12 od13 an13 od14 an14 od15 an15 od16 an16 od17 an17 od18 an18 : Option Addr} {sl0 sl1 sl2 sl3 sl4 sl5 sl6 sl7 sl8 sl9 sl10 sl11 sl12 sl13 sl14 sl15 sl16 sl17 sl18 : Array (Option Value)} {oc0 kV0 dc0 pm0 cd0 ct0 oc1 kV1 dc1 pm1 cd1 ct1 oc2 kV2 dc2 pm2 cd2 ct2 oc3 kV3 dc3 pm3 cd3 ct3 oc4 kV4 dc4 pm4 cd4 ct4 oc5 kV5 dc5 pm5 cd5 ct5 oc6 kV6 dc6 pm6 cd6 ct6 oc7 kV7 dc7 pm7 cd7 ct7 oc8 kV8 dc8 pm8 cd8 ct8 oc9 kV9 dc9 pm9 cd9 ct9 oc10 kV10 dc10 pm10 cd10 ct10 oc11 kV11 dc11 pm11 cd11 ct11 oc12 kV12 dc12 pm12 cd12 ct12 oc13 kV13 dc13 pm13 cd13 ct13 oc14 kV14 dc14 pm14 cd14 ct14 oc15 kV15 dc15 pm15 cd15 ct15 oc16 kV16 dc16 pm16 cd16 ct16 oc17 kV17 dc17 pm17 cd17 ct17 oc18 kV18 dc18 pm18 cd18 ct18 : Value}
    (aT : PySem.W.nsIn K mainGlobals "TURNED" = some (some (.ref TT))) (tab : tabAt K TT [("0", .flat (.str "1")), ("1", .flat (.str "0"))])
    (a0 : PySem.W.nsIn K mainGlobals "is_row" = some (some (.ref f0))) (l0 : K.lookup f0 = some ⟨oc0, od0, .func (PySem.W.fnOf "is_row" "is_row" (defArgs (top 10)) (defBody (top 10)) (defScope (top 10)) .none kV0 dc0 pm0 an0 cd0 ct0), sl0⟩) (c0 : PySem.W.codeIn K cd0 "is_row" = true) (k0 : PySem.W.keepIn K (.ref f0) = true)
    (a1 : PySem.W.nsIn K mainGlobals "is_standing" = some (some (.ref f1))) (l1 : K.lookup f1 = some ⟨oc1, od1, .func (PySem.W.fnOf "is_standing" "is_standing" (defArgs (top 13)) (defBody (top 13)) (defScope (top 13)) .none kV1 dc1 pm1 an1 cd1 ct1), sl1⟩) (c1 : PySem.W.codeIn K cd1 "is_standing" = true) (k1 : PySem.W.keepIn K (.ref f1) = true)
    (a2 : PySem.W.nsIn K mainGlobals "check_standing" = some (some (.ref f2))) (l2 : K.lookup f2 = some ⟨oc2, od2, .func (PySem.W.fnOf "check_standing" "check_standing" (defArgs (top 14)) (defBody (top 14)) (defScope (top 14)) .none kV2 dc2 pm2 an2 cd2 ct2), sl2⟩) (c2 : PySem.W.codeIn K cd2 "check_standing" = true) (k2 : PySem.W.keepIn K (.ref f2) = true)
    (a3 : PySem.W.nsIn K mainGlobals "first_race" = some (some (.ref f3))) (l3 : K.lookup f3 = some ⟨oc3, od3, .func (PySem.W.fnOf "first_race" "first_race" (defArgs (top 28)) (defBody (top 28)) (defScope (top 28)) .none kV3 dc3 pm3 an3 cd3 ct3), sl3⟩) (c3 : PySem.W.codeIn K cd3 "first_race" = true) (k3 : PySem.W.keepIn K (.ref f3) = true)
    (a4 : PySem.W.nsIn K mainGlobals "calm_paper" = some (some (.ref f4))) (l4 : K.lookup f4 = some ⟨oc4, od4, .func (PySem.W.fnOf "calm_paper" "calm_paper" (defArgs (top 29)) (defBody (top 29)) (defScope (top 29)) .none kV4 dc4 pm4 an4 cd4 ct4), sl4⟩) (c4 : PySem.W.codeIn K cd4 "calm_paper" = true) (k4 : PySem.W.keepIn K (.ref f4) = true)
    (a5 : PySem.W.nsIn K mainGlobals "calm_shows" = some (some (.ref f5))) (l5 : K.lookup f5 = some ⟨oc5, od5, .func (PySem.W.fnOf "calm_shows" "calm_shows" (defArgs (top 32)) (defBody (top 32)) (defScope (top 32)) .none kV5 dc5 pm5 an5 cd5 ct5), sl5⟩) (c5 : PySem.W.codeIn K cd5 "calm_shows" = true) (k5 : PySem.W.keepIn K (.ref f5) = true)
    (a6 : PySem.W.nsIn K mainGlobals "_law_cell" = some (some (.ref f6))) (l6 : K.lookup f6 = some ⟨oc6, od6, .func (PySem.W.fnOf "_law_cell" "_law_cell" (defArgs (top 34)) (defBody (top 34)) (defScope (top 34)) .none kV6 dc6 pm6 an6 cd6 ct6), sl6⟩) (c6 : PySem.W.codeIn K cd6 "_law_cell" = true) (k6 : PySem.W.keepIn K (.ref f6) = true)
    (a7 : PySem.W.nsIn K mainGlobals "_law_store" = some (some (.ref f7))) (l7 : K.lookup f7 = some ⟨oc7, od7, .func (PySem.W.fnOf "_law_store" "_law_store" (defArgs (top 35)) (defBody (top 35)) (defScope (top 35)) .none kV7 dc7 pm7 an7 cd7 ct7), sl7⟩) (c7 : PySem.W.codeIn K cd7 "_law_store" = true) (k7 : PySem.W.keepIn K (.ref f7) = true)
    (a8 : PySem.W.nsIn K mainGlobals "_law_take" = some (some (.ref f8))) (l8 : K.lookup f8 = some ⟨oc8, od8, .func (PySem.W.fnOf "_law_take" "_law_take" (defArgs (top 36)) (defBody (top 36)) (defScope (top 36)) .none kV8 dc8 pm8 an8 cd8 ct8), sl8⟩) (c8 : PySem.W.codeIn K cd8 "_law_take" = true) (k8 : PySem.W.keepIn K (.ref f8) = true)
    (a9 : PySem.W.nsIn K mainGlobals "_law_names" = some (some (.ref f9))) (l9 : K.lookup f9 = some ⟨oc9, od9, .func (PySem.W.fnOf "_law_names" "_law_names" (defArgs (top 37)) (defBody (top 37)) (defScope (top 37)) .none kV9 dc9 pm9 an9 cd9 ct9), sl9⟩) (c9 : PySem.W.codeIn K cd9 "_law_names" = true) (k9 : PySem.W.keepIn K (.ref f9) = true)
    (a10 : PySem.W.nsIn K mainGlobals "_law_rule" = some (some (.ref f10))) (l10 : K.lookup f10 = some ⟨oc10, od10, .func (PySem.W.fnOf "_law_rule" "_law_rule" (defArgs (top 38)) (defBody (top 38)) (defScope (top 38)) .none kV10 dc10 pm10 an10 cd10 ct10), sl10⟩) (c10 : PySem.W.codeIn K cd10 "_law_rule" = true) (k10 : PySem.W.keepIn K (.ref f10) = true)
    (a11 : PySem.W.nsIn K mainGlobals "_law_holder" = some (some (.ref f11))) (l11 : K.lookup f11 = some ⟨oc11, od11, .func (PySem.W.fnOf "_law_holder" "_law_holder" (defArgs (top 39)) (defBody (top 39)) (defScope (top 39)) .none kV11 dc11 pm11 an11 cd11 ct11), sl11⟩) (c11 : PySem.W.codeIn K cd11 "_law_holder" = true) (k11 : PySem.W.keepIn K (.ref f11) = true)
    (a12 : PySem.W.nsIn K mainGlobals "_law_known_rule" = some (some (.ref f12))) (l12 : K.lookup f12 = some ⟨oc12, od12, .func (PySem.W.fnOf "_law_known_rule" "_law_known_rule" (defArgs (top 40)) (defBody (top 40)) (defScope (top 40)) .none kV12 dc12 pm12 an12 cd12 ct12), sl12⟩) (c12 : PySem.W.codeIn K cd12 "_law_known_rule" = true) (k12 : PySem.W.keepIn K (.ref f12) = true)
    (a13 : PySem.W.nsIn K mainGlobals "_law_net" = some (some (.ref f13))) (l13 : K.lookup f13 = some ⟨oc13, od13, .func (PySem.W.fnOf "_law_net" "_law_net" (defArgs (top 41)) (defBody (top 41)) (defScope (top 41)) .none kV13 dc13 pm13 an13 cd13 ct13), sl13⟩) (c13 : PySem.W.codeIn K cd13 "_law_net" = true) (k13 : PySem.W.keepIn K (.ref f13) = true)
    (a14 : PySem.W.nsIn K mainGlobals "_law_standing" = some (some (.ref f14))) (l14 : K.lookup f14 = some ⟨oc14, od14, .func (PySem.W.fnOf "_law_standing" "_law_standing" (defArgs (top 42)) (defBody (top 42)) (defScope (top 42)) .none kV14 dc14 pm14 an14 cd14 ct14), sl14⟩) (c14 : PySem.W.codeIn K cd14 "_law_standing" = true) (k14 : PySem.W.keepIn K (.ref f14) = true)
    (a15 : PySem.W.nsIn K mainGlobals "_law_class" = some (some (.ref f15))) (l15 : K.lookup f15 = some ⟨oc15, od15, .func (PySem.W.fnOf "_law_class" "_law_class" (defArgs (top 48)) (defBody (top 48)) (defScope (top 48)) .none kV15 dc15 pm15 an15 cd15 ct15), sl15⟩) (c15 : PySem.W.codeIn K cd15 "_law_class" = true) (k15 : PySem.W.keepIn K (.ref f15) = true)
    (a16 : PySem.W.nsIn K mainGlobals "_law_refused" = some (some (.ref f16))) (l16 : K.lookup f16 = some ⟨oc16, od16, .func (PySem.W.fnOf "_law_refused" "_law_refused" (defArgs (top 49)) (defBody (top 49)) (defScope (top 49)) .none kV16 dc16 pm16 an16 cd16 ct16), sl16⟩) (c16 : PySem.W.codeIn K cd16 "_law_refused" = true) (k16 : PySem.W.keepIn K (.ref f16) = true)
    (a17 : PySem.W.nsIn K mainGlobals "_law_no_standing" = some (some (.ref f17))) (l17 : K.lookup f17 = some ⟨oc17, od17, .func (PySem.W.fnOf "_law_no_standing" "_law_no_standing" (defArgs (top 50)) (defBody (top 50)) (defScope (top 50)) .none kV17 dc17 pm17 an17 cd17 ct17), sl17⟩) (c17 : PySem.W.codeIn K cd17 "_law_no_standing" = true) (k17 : PySem.W.keepIn K (.ref f17) = true)
    (a18 : PySem.W.nsIn K mainGlobals "law" = some (some (.ref f18))) (l18 : K.lookup f18 = some ⟨oc18, od18, .func (PySem.W.fnOf "law" "law" (defArgs (top 51)) (defBody (top 51)) (defScope (top 51)) .none kV18 dc18 pm18 an18 cd18 ct18), sl18⟩) (c18 : PySem.W.codeIn K cd18 "law" = true) (k18 : PySem.W.keepIn K (.ref f18) = true)
    {CS NE kc0 kc2 kc3 kc4 kc5 : Addr} {nd0 nd1 : Option Addr} {cdN cdNE q1 q3 q4 q5 : ClassData} {ns0 ns1 : Array (Option Value)} {nv0 nv1 : Value} {es : Array DictEntry} {ep : Nat}
    {zsdd : Option Addr} {zscd zscq : ClassData} {zssl : Array (Option Value)}
    {q2 : ClassData}
    (x0 : PySem.W.nsIn K mainGlobals "NoStep" = some (some (.ref CS)))
    (x1 : PySem.W.nsIn K mainGlobals "NetError" = some (some (.ref NE)))
    (x2 : PySem.W.nsIn K mainGlobals "NoStanding" = some (some (.ref kc0)))
    (x3 : PySem.W.nsIn K mainGlobals "NoFit" = some (some (.ref kc2)))
    (x4 : PySem.W.nsIn K mainGlobals "NoText" = some (some (.ref kc3)))
    (x5 : PySem.W.nsIn K mainGlobals "NoName" = some (some (.ref kc4)))
    (x6 : PySem.W.nsIn K mainGlobals "NoRow" = some (some (.ref kc5)))
    (xv : PySem.W.nsIn K mainGlobals "ValueError" = some none)
    (y3 : K.lookup NE = some ⟨nv0, nd0, .cls cdN, ns0⟩)
    (y4 : K.lookup cdN.ns = some ⟨nv1, nd1, .dict es ep, ns1⟩)
    (y5 : (es.toList.all (fun e => strIn e.key) && (es.toList.find? fun e => e.key.isStr "__init__").isNone) = true)
    (cg : PySem.W.specialIn K (.builtin "object.__class__") "__get__" = some (some (.builtin "getset_descriptor.__get__")))
    (ct : PySem.W.takesIn K (.builtin "object.__class__") = some true)
    (zsy1 : K.lookup kc0 = some ⟨.type "type", zsdd, .cls zscd, zssl⟩)
    (zsy2 : (newIn zssl && zscd.mro == .ref kc0 :: .ref NE :: XE.vmro && !zscd.hasDel) = true)
    (zsy6 : PySem.W.keepIn K (.ref kc0) = true)
    (zsm1 : PySem.W.clsIn K kc0 = some zscq)
    (zsm2 : (zscq.mro == .ref kc0 :: .ref NE :: XE.vmro) = true)
    (zsga : PySem.W.findIn K (.ref kc0) "__getattribute__" = some (some (.builtin "BaseException.__getattribute__")))
    (zsgh : PySem.W.findIn K (.ref kc0) "__getattr__" = some none)
    (zssb : PySem.W.subIn K (.ref kc0) (.type "BaseException") = some true)
    (zshd : PySem.W.hasDictIn K kc0 = true)
    (zscl : PySem.W.findIn K (.ref kc0) "__class__" = some (some (.builtin "object.__class__")))
    (zsob : PySem.W.mroIn K kc0 (.type "object") = some true)
    (zssa : PySem.W.findIn K (.ref kc0) "__setattr__" = some (some (.builtin "object.__setattr__")))
    (zsi1 : PySem.W.findIn K (.ref kc0) "__init__" = some (some (.builtin "ValueError.__init__")))
    (zsp1 : (Value.ref kc0 == Value.ref CS) = false)
    (zst1 : PySem.W.subIn K (.ref kc0) (.ref CS) = some false)
    (zsp2 : (Value.ref kc0 == Value.ref kc2) = false)
    (zst2 : PySem.W.subIn K (.ref kc0) (.ref kc2) = some false)
    (zsp3 : (Value.ref kc0 == Value.ref kc3) = false)
    (zst3 : PySem.W.subIn K (.ref kc0) (.ref kc3) = some false)
    (zsp4 : (Value.ref kc0 == Value.ref kc4) = false)
    (zst4 : PySem.W.subIn K (.ref kc0) (.ref kc4) = some false)
    (zsp5 : (Value.ref kc0 == Value.ref kc5) = false)
    (zst5 : PySem.W.subIn K (.ref kc0) (.ref kc5) = some false)
    (zsv1 : PySem.W.subIn K (.ref kc0) (.type "ValueError") = some true)
    (zsu3 : PySem.W.subIn K (.ref kc0) (.ref NE) = some true)
    (r1 : PySem.W.clsIn K CS = some q1)
    (s1 : PySem.W.typeIn K (.ref CS) = some (.type "type"))
    (r2 : PySem.W.clsIn K kc2 = some q2)
    (s2 : PySem.W.typeIn K (.ref kc2) = some (.type "type"))
    (r3 : PySem.W.clsIn K kc3 = some q3)
    (s3 : PySem.W.typeIn K (.ref kc3) = some (.type "type"))
    (r4 : PySem.W.clsIn K kc4 = some q4)
    (s4 : PySem.W.typeIn K (.ref kc4) = some (.type "type"))
    (r5 : PySem.W.clsIn K kc5 = some q5)
    (s5 : PySem.W.typeIn K (.ref kc5) = some (.type "type"))
    (u0 : PySem.W.subIn K (.ref NE) (.type "BaseException") = some true)
    (u1 : PySem.W.clsIn K NE = some cdNE)
    (u2 : PySem.W.typeIn K (.ref NE) = some (.type "type"))
    (z0 : PySem.W.nsIn K mainGlobals "len" = some none)
    (z1 : PySem.W.nsIn K mainGlobals "range" = some none)
    (z2 : PySem.W.nsIn K mainGlobals "max" = some none)
    (z3 : PySem.W.nsIn K mainGlobals "min" = some none)
    (z4 : PySem.W.nsIn K mainGlobals "int" = some none)
    (z5 : PySem.W.nsIn K mainGlobals "list" = some none)
    (z6 : PySem.W.nsIn K mainGlobals "str" = some none)
    (z7 : PySem.W.nsIn K mainGlobals "isinstance" = some none)
    (z8 : PySem.W.nsIn K mainGlobals "all" = some none)
    (z9 : PySem.W.nsIn K mainGlobals "dict" = some none)
    (z10 : PySem.W.nsIn K mainGlobals "zip" = some none)
    (z11 : PySem.W.nsIn K mainGlobals "enumerate" = some none)
    (z12 : PySem.W.nsIn K mainGlobals "abs" = some none)
    (z13 : PySem.W.nsIn K mainGlobals "sorted" = some none)
    (z14 : PySem.W.nsIn K mainGlobals "tuple" = some none)
    : ∃ fd : FuncData, (∀ (s : Shared) (v : Value), BindsTo s fd ⟨[v], []⟩ [("script", v)]) ∧ ∀ base : Heap, K.In base → base.Ns mainGlobals mg → FnOk l.prog w K mg base CX0 13 fa fd ["script"] (spLaw K) := by
  have e := hfa.symm.trans (PySem.W.mg_of X G a18)
  cases e
  have T : Txt K mg TT := ⟨PySem.W.mg_none_of X G z0, PySem.W.mg_none_of X G z1, PySem.W.mg_none_of X G z2, PySem.W.mg_none_of X G z3, PySem.W.mg_none_of X G z4, PySem.W.mg_none_of X G z5, PySem.W.mg_none_of X G z6, PySem.W.mg_none_of X G z7, PySem.W.mg_none_of X G z8, PySem.W.mg_none_of X G z9, PySem.W.mg_none_of X G z10, PySem.W.mg_none_of X G z11, PySem.W.mg_none_of X G z12, PySem.W.mg_none_of X G z13, PySem.W.mg_none_of X G z14, PySem.W.mg_of X G aT, tab⟩
  have NM : NmE mg CS NE := ⟨PySem.W.mg_of X G x0, PySem.W.mg_of X G x1⟩
  have KD : KindsM mg kc0 kc2 kc3 kc4 kc5 := ⟨PySem.W.mg_of X G x2, PySem.W.mg_of X G x3, PySem.W.mg_of X G x4, PySem.W.mg_of X G x5, PySem.W.mg_of X G x6, PySem.W.mg_none_of X G xv⟩
  have zskl : XE.XKl K kc0 NE := ⟨mr_of zsm1 zsm2, zsga, zsgh, zssb, zshd, zscl, cg, ct, zsob, zssa⟩
  have NS0 : ExcS K mg kc0 NE := ⟨xmk_of (xcIn_of zsy1 zsy2) (tailIn_of y3 y4 y5) zsy6 zskl, zsi1, PySem.W.mg_of X G x2⟩
  have ZC : Kin K kc0 NE CS kc2 kc3 kc4 kc5 := ⟨kit_self0, (kit_any_cons (kit_ref zsp2 r2 s2 zst2) (kit_any_cons (kit_ref zsp3 r3 s3 zst3) (kit_any_cons (kit_ref zsp4 r4 s4 zst4) (kit_any_cons (kit_ref zsp5 r5 s5 zst5) (kit_any_cons (kit_ref zsp1 r1 s1 zst1) kit_any_nil))))), kit_type (by decide +kernel) zsv1, exm_of u0 u1 u2 zsu3, zskl⟩
  have F0 := fun_mk (st := top 10) l0 c0 k0
  have b0 := F0.binds (ps := ["thing", "many"]) fun _ _ _ _ _ _ us hl => by obtain ⟨_, _, rfl⟩ := len_2 hl; rfl
  have m0 := PySem.W.mg_of X G a0
  have F1 := fun_mk (st := top 13) l1 c1 k1
  have b1 := F1.binds (ps := ["net", "thing"]) fun _ _ _ _ _ _ us hl => by obtain ⟨_, _, rfl⟩ := len_2 hl; rfl
  have m1 := PySem.W.mg_of X G a1
  have F2 := fun_mk (st := top 14) l2 c2 k2
  have b2 := F2.binds (ps := ["net", "thing"]) fun _ _ _ _ _ _ us hl => by obtain ⟨_, _, rfl⟩ := len_2 hl; rfl
  have m2 := PySem.W.mg_of X G a2
  have F3 := fun_mk (st := top 28) l3 c3 k3
  have b3 := F3.binds (ps := ["net", "standing"]) fun _ _ _ _ _ _ us hl => by obtain ⟨_, _, rfl⟩ := len_2 hl; rfl
  have m3 := PySem.W.mg_of X G a3
  have F4 := fun_mk (st := top 29) l4 c4 k4
  have b4 := F4.binds (ps := ["net", "standing"]) fun _ _ _ _ _ _ us hl => by obtain ⟨_, _, rfl⟩ := len_2 hl; rfl
  have m4 := PySem.W.mg_of X G a4
  have F5 := fun_mk (st := top 32) l5 c5 k5
  have b5 := F5.binds (ps := ["net", "standing", "paper"]) fun _ _ _ _ _ _ us hl => by obtain ⟨_, _, _, rfl⟩ := len_3 hl; rfl
  have m5 := PySem.W.mg_of X G a5
  have F6 := fun_mk (st := top 34) l6 c6 k6
  have b6 := F6.binds (ps := ["script", "k"]) fun _ _ _ _ _ _ us hl => by obtain ⟨_, _, rfl⟩ := len_2 hl; rfl
  have m6 := PySem.W.mg_of X G a6
  have F7 := fun_mk (st := top 35) l7 c7 k7
  have b7 := F7.binds (ps := ["cell"]) fun _ _ _ _ _ _ us hl => by obtain ⟨_, rfl⟩ := len_1 hl; rfl
  have m7 := PySem.W.mg_of X G a7
  have F8 := fun_mk (st := top 36) l8 c8 k8
  have b8 := F8.binds (ps := ["store", "many"]) fun _ _ _ _ _ _ us hl => by obtain ⟨_, _, rfl⟩ := len_2 hl; rfl
  have m8 := PySem.W.mg_of X G a8
  have F9 := fun_mk (st := top 37) l9 c9 k9
  have b9 := F9.binds (ps := ["store", "many"]) fun _ _ _ _ _ _ us hl => by obtain ⟨_, _, rfl⟩ := len_2 hl; rfl
  have m9 := PySem.W.mg_of X G a9
  have F10 := fun_mk (st := top 38) l10 c10 k10
  have b10 := F10.binds (ps := ["store", "names", "deep"]) fun _ _ _ _ _ _ us hl => by obtain ⟨_, _, _, rfl⟩ := len_3 hl; rfl
  have m10 := PySem.W.mg_of X G a10
  have F11 := fun_mk (st := top 39) l11 c11 k11
  have b11 := F11.binds (ps := ["one", "other", "own"]) fun _ _ _ _ _ _ us hl => by obtain ⟨_, _, _, rfl⟩ := len_3 hl; rfl
  have m11 := PySem.W.mg_of X G a11
  have F12 := fun_mk (st := top 40) l12 c12 k12
  have b12 := F12.binds (ps := ["kind", "names", "at", "ins"]) fun _ _ _ _ _ _ us hl => by obtain ⟨_, _, _, _, rfl⟩ := len_4 hl; rfl
  have m12 := PySem.W.mg_of X G a12
  have F13 := fun_mk (st := top 41) l13 c13 k13
  have b13 := F13.binds (ps := ["store", "most"]) fun _ _ _ _ _ _ us hl => by obtain ⟨_, _, rfl⟩ := len_2 hl; rfl
  have m13 := PySem.W.mg_of X G a13
  have F14 := fun_mk (st := top 42) l14 c14 k14
  have b14 := F14.binds (ps := ["store", "net"]) fun _ _ _ _ _ _ us hl => by obtain ⟨_, _, rfl⟩ := len_2 hl; rfl
  have m14 := PySem.W.mg_of X G a14
  have F15 := fun_mk (st := top 48) l15 c15 k15
  have b15 := F15.binds (ps := ["e"]) fun _ _ _ _ _ _ us hl => by obtain ⟨_, rfl⟩ := len_1 hl; rfl
  have m15 := PySem.W.mg_of X G a15
  have F16 := fun_mk (st := top 49) l16 c16 k16
  have b16 := F16.binds (ps := ["way", "net", "thing", "paper"]) fun _ _ _ _ _ _ us hl => by obtain ⟨_, _, _, _, rfl⟩ := len_4 hl; rfl
  have m16 := PySem.W.mg_of X G a16
  have F17 := fun_mk (st := top 50) l17 c17 k17
  have b17 := F17.binds (ps := ["store", "standing"]) fun _ _ _ _ _ _ us hl => by obtain ⟨_, _, rfl⟩ := len_2 hl; rfl
  have m17 := PySem.W.mg_of X G a17
  have F18 := fun_mk (st := top 51) l18 c18 k18
  have b18 := F18.binds (ps := ["script"]) fun _ _ _ _ _ _ us hl => by obtain ⟨_, rfl⟩ := len_1 hl; rfl
  have m18 := PySem.W.mg_of X G a18
  refine ⟨PySem.W.fnOf "law" "law" (defArgs (top 51)) (defBody (top 51)) (defScope (top 51)) .none kV18 dc18 pm18 an18 cd18 ct18, fun s v => .of_eq rfl, fun base _ _ => ?_⟩
  have g6 : Fn l.prog w K mg base "_law_cell" ["script", "k"] 1 (spCell K) := ⟨f6, _, ok_cell F6 T, m6, k6, b6⟩
  have g7 : Fn l.prog w K mg base "_law_store" ["cell"] 1 spStore := ⟨f7, _, ok_store F7 T, m7, k7, b7⟩
  have g8 : Fn l.prog w K mg base "_law_take" ["store", "many"] 1 spDraw := ⟨f8, _, ok_take F8 T, m8, k8, b8⟩
  have g9 : Fn l.prog w K mg base "_law_names" ["store", "many"] 2 spNamesV := ⟨f9, _, ok_namesV F9 T g8, m9, k9, b9⟩
  have g10 : Fn l.prog w K mg base "_law_rule" ["store", "names", "deep"] 11 (spRuleV 10) := ⟨f10, _, ok_ruleV F10 T g8 m10 k10 b10 10, m10, k10, b10⟩
  have g11 : Fn l.prog w K mg base "_law_holder" ["one", "other", "own"] 1 spHolder := ⟨f11, _, ok_holder F11 T, m11, k11, b11⟩
  have g12 : Fn l.prog w K mg base "_law_known_rule" ["kind", "names", "at", "ins"] 2 spKnownR := ⟨f12, _, ok_knownR F12 T g11, m12, k12, b12⟩
  have g13 : Fn l.prog w K mg base "_law_net" ["store", "most"] 12 spNetV := ⟨f13, _, ok_netV F13 T g8 g9 g10 g12, m13, k13, b13⟩
  have g14 : Fn l.prog w K mg base "_law_standing" ["store", "net"] 2 spStanding := ⟨f14, _, ok_standing F14 T g8, m14, k14, b14⟩
  have g17 : Fn l.prog w K mg base "_law_no_standing" ["store", "standing"] 2 (spNoStV K) := ⟨f17, _, ok_nostV F17 T g8, m17, k17, b17⟩
  have hr : Fn l.prog w K mg base "is_row" ["thing", "many"] 1 (spRowB K) := ⟨f0, _, ok_rowB F0 T, m0, k0, b0⟩
  have hi : Fn l.prog w K mg base "is_standing" ["net", "thing"] 2 (spIsStB K) := ⟨f1, _, ok_isstB F1 T hr, m1, k1, b1⟩
  have hc : Fn1 l.prog w K mg base "check_standing" ["net", "thing"] 3 (spCheckB K kc0) := ⟨f2, _, ok_checkB F2 T NS0 hi, m2, k2, b2⟩
  have g3 : Fn1 l.prog w K mg base "first_race" ["net", "standing"] 4 (spBadA K kc0) := ⟨f3, _, ok_raceB F3 T hc, m3, k3, b3⟩
  have g4 : Fn1 l.prog w K mg base "calm_paper" ["net", "standing"] 4 (spBadA K kc0) := ⟨f4, _, ok_paperB F4 T hc, m4, k4, b4⟩
  have g5 : Fn1 l.prog w K mg base "calm_shows" ["net", "standing", "paper"] 4 (spBadS K kc0) := ⟨f5, _, ok_showsB F5 T hc, m5, k5, b5⟩
  have g15 : FnM l.prog w K mg base "_law_class" ["e"] 1 (spClass kc0) := ⟨f15, _, ok_class F15 T NM KD ZC, m15, k15, b15⟩
  have g16 : Fn l.prog w K mg base "_law_refused" ["way", "net", "thing", "paper"] 5 (spRefV K) := ⟨f16, _, ok_refV F16 T NM ZC g3 g4 g5 g15, m16, k16, b16⟩
  exact ok_law15 F18 T g6 g7 g13 g14 g17 g16
theorem walk {l : PySem.W.OpenLaw} {q : Program} {loose : List Str} {XP : (Str → Option Value) → Heap → Prop} {YP : World → Heap → Prop} {d : DefRec} {K : Params → PySem.W.Frag} (hn : l.most = some 63) (hdf : d.params.defaults = [])
    (hY : ∀ (w : World) (h : Heap), YP w h → (K w.params).In h)
    (F : ∀ (w : World) (mg : Str → Option Value) (fa : Addr) (h : Heap), (K w.params).In h → h.Ns mainGlobals mg → mg d.name = some (.ref fa) →
      ∃ fd : FuncData, (∀ (s : Shared) (u : Value), BindsTo s fd ⟨[u], []⟩ [("script", u)]) ∧ ∀ base : Heap, (K w.params).In base → base.Ns mainGlobals mg → FnOk l.prog w (K w.params) mg base CX0 13 fa fd ["script"] (spLaw (K w.params))) :
    PySem.W.WalkO q loose XP YP l.row.toRowW d [] (fun f vs => PySem.call f vs) :=
  L2.walk_of (n := 63) (k := 13) (x := "script") (CX := fun _ => CX0) (sp := fun w => spLaw (K w.params)) hn (by decide) hdf ⟨rfl, by decide, by decide⟩ hY F (fun _ _ a ns hl _ hS => ⟨a, ns, rfl, hS, hl, fun _ => rfl⟩) fun _ _ _ _ _ z => z
theorem walkX {q : Program} {loose : List Str} {XP : (Str → Option Value) → Heap → Prop} {K : Params → PySem.W.Frag} {as : List Addr} {n t : Nat} {r : PySem.W.RowW} {d : DefRec} {kwd : List (Str × Expr)} {run : Value → List Value → Sem Value}
    (e : ∀ P, as = (K P).map (·.1)) (W : PySem.W.WalkO q loose XP (PySem.W.InK K) r d kwd run) : PySem.W.WalkX q loose XP (PySem.W.X.obsZ as) (PySem.W.X.valZ K n t) r d kwd run := by
  intro w s₀ s₁ mg mb G y a o pm cd doc dV kV h1 h2 h3 h4 h5 h6 args vals as' L p1 p2 p3 p4 p5
  exact W w s₀ s₁ mg mb G (PySem.W.InK.keeps _ _ _ (PySem.W.X.z_facts e y).2.1 L.keeps) a o pm cd doc dV kV h1 h2 h3 h4 h5 h6 args vals as' p1 p2 p3 p4 p5
end K2
open PySem PySem.W PyProof.Rows
set_option maxRecDepth 100000 in
set_option maxHeartbeats 0 in
theorem PySem.Challenge.cw_anydelay_k15_standings_that_are_none_holds : PySem.Challenge.rw_anydelay_k15_standings_that_are_none.Holds := by
  w_on; o_law; z_head; (case hw => w_witness2)
  k_fill
  refine K2.walkX (fun _ => by kernel_rfl) ?W
  case W =>
   refine K2.walk (l := PySem.Challenge.rw_anydelay_k15_standings_that_are_none) rfl rfl (fun w h Y => Y) ?F
   case F =>
    intro w mg fa h KX G hmg
    refine' K2.all_mk KX G hmg ?aT ?tab ?a0 ?l0 ?c0 ?k0 ?a1 ?l1 ?c1 ?k1 ?a2 ?l2 ?c2 ?k2 ?a3 ?l3 ?c3 ?k3 ?a4 ?l4 ?c4 ?k4 ?a5 ?l5 ?c5 ?k5 ?a6 ?l6 ?c6 ?k6 ?a7 ?l7 ?c7 ?k7 ?a8 ?l8 ?c8 ?k8 ?a9 ?l9 ?c9 ?k9 ?a10 ?l10 ?c10 ?k10 ?a11 ?l11 ?c11 ?k11 ?a12 ?l12 ?c12 ?k12 ?a13 ?l13 ?c13 ?k13 ?a14 ?l14 ?c14 ?k14 ?a15 ?l15 ?c15 ?k15 ?a16 ?l16 ?c16 ?k16 ?a17 ?l17 ?c17 ?k17 ?a18 ?l18 ?c18 ?k18 ?x0 ?x1 ?x2 ?x3 ?x4 ?x5 ?x6 ?xv ?y3 ?y4 ?y5 ?cg ?ct ?zsy1 ?zsy2 ?zsy6 ?zsm1 ?zsm2 ?zsga ?zsgh ?zssb ?zshd ?zscl ?zsob ?zssa ?zsi1 ?zsp1 ?zst1 ?zsp2 ?zst2 ?zsp3 ?zst3 ?zsp4 ?zst4 ?zsp5 ?zst5 ?zsv1 ?zsu3 ?r1 ?s1 ?r2 ?s2 ?r3 ?s3 ?r4 ?s4 ?r5 ?s5 ?u0 ?u1 ?u2 ?z0 ?z1 ?z2 ?z3 ?z4 ?z5 ?z6 ?z7 ?z8 ?z9 ?z10 ?z11 ?z12 ?z13 ?z14
    (case aT => k_is)
    (case tab => first | rfl | decide | decide +kernel)
    (case a0 => k_is); (case l0 => k_is); (case c0 => k_is); (case k0 => k_is)
    (case a1 => k_is); (case l1 => k_is); (case c1 => k_is); (case k1 => k_is)
    (case a2 => k_is); (case l2 => k_is); (case c2 => k_is); (case k2 => k_is)
    (case a3 => k_is); (case l3 => k_is); (case c3 => k_is); (case k3 => k_is)
    (case a4 => k_is); (case l4 => k_is); (case c4 => k_is); (case k4 => k_is)
    (case a5 => k_is); (case l5 => k_is); (case c5 => k_is); (case k5 => k_is)
    (case a6 => k_is); (case l6 => k_is); (case c6 => k_is); (case k6 => k_is)
    (case a7 => k_is); (case l7 => k_is); (case c7 => k_is); (case k7 => k_is)
    (case a8 => k_is); (case l8 => k_is); (case c8 => k_is); (case k8 => k_is)
    (case a9 => k_is); (case l9 => k_is); (case c9 => k_is); (case k9 => k_is)
    (case a10 => k_is); (case l10 => k_is); (case c10 => k_is); (case k10 => k_is)
    (case a11 => k_is); (case l11 => k_is); (case c11 => k_is); (case k11 => k_is)
    (case a12 => k_is); (case l12 => k_is); (case c12 => k_is); (case k12 => k_is)
    (case a13 => k_is); (case l13 => k_is); (case c13 => k_is); (case k13 => k_is)
    (case a14 => k_is); (case l14 => k_is); (case c14 => k_is); (case k14 => k_is)
    (case a15 => k_is); (case l15 => k_is); (case c15 => k_is); (case k15 => k_is)
    (case a16 => k_is); (case l16 => k_is); (case c16 => k_is); (case k16 => k_is)
    (case a17 => k_is); (case l17 => k_is); (case c17 => k_is); (case k17 => k_is)
    (case a18 => k_is); (case l18 => k_is); (case c18 => k_is); (case k18 => k_is)
    (case x0 => k_is)
    (case x1 => k_is)
    (case x2 => k_is)
    (case x3 => k_is)
    (case x4 => k_is)
    (case x5 => k_is)
    (case x6 => k_is)
    (case xv => k_is)
    (case y3 => k_is)
    (case y4 => k_is)
    (case y5 => (first | rfl | decide | decide +kernel))
    (case cg => k_is)
    (case ct => k_is)
    (case zsy1 => k_is)
    (case zsy2 => (first | rfl | decide | decide +kernel))
    (case zsy6 => k_is)
    (case zsm1 => k_is)
    (case zsm2 => (first | rfl | decide | decide +kernel))
    (case zsga => k_is)
    (case zsgh => k_is)
    (case zssb => k_is)
    (case zshd => k_is)
    (case zscl => k_is)
    (case zsob => k_is)
    (case zssa => k_is)
    (case zsi1 => k_is)
    (case zsp1 => (first | rfl | decide | decide +kernel))
    (case zst1 => k_is)
    (case zsp2 => (first | rfl | decide | decide +kernel))
    (case zst2 => k_is)
    (case zsp3 => (first | rfl | decide | decide +kernel))
    (case zst3 => k_is)
    (case zsp4 => (first | rfl | decide | decide +kernel))
    (case zst4 => k_is)
    (case zsp5 => (first | rfl | decide | decide +kernel))
    (case zst5 => k_is)
    (case zsv1 => k_is)
    (case zsu3 => k_is)
    (case r1 => k_is)
    (case s1 => k_is)
    (case r2 => k_is)
    (case s2 => k_is)
    (case r3 => k_is)
    (case s3 => k_is)
    (case r4 => k_is)
    (case s4 => k_is)
    (case r5 => k_is)
    (case s5 => k_is)
    (case u0 => k_is)
    (case u1 => k_is)
    (case u2 => k_is)
    (case z0 => k_is)
    (case z1 => k_is)
    (case z2 => k_is)
    (case z3 => k_is)
    (case z4 => k_is)
    (case z5 => k_is)
    (case z6 => k_is)
    (case z7 => k_is)
    (case z8 => k_is)
    (case z9 => k_is)
    (case z10 => k_is)
    (case z11 => k_is)
    (case z12 => k_is)
    (case z13 => k_is)
    (case z14 => k_is)
