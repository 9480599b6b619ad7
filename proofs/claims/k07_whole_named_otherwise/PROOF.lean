import PyProof.Rows.All
import Wide.All
import OpenK.AllK
import Wide.FinOn
import Lean
import PyProof.EqAt
import PyProof.EqKinds
import PyProof.TupleCall
import PyProof.NeKinds
import KE.KTabLook
import KE.KIntText
import KE.KUnpack
import PyProof.StrBlock2
import PyProof.ZipIter
import PyProof.Draws
import PyProof.AttrMissHeap
import PyProof.DictUpdate
import PyProof.ListNew
import PyProof.FactsAll.dict_1
import PyProof.Rows.DictSet
import PyProof.StationsW
import PyProof.RulesAs
import PyProof.ExcClass2
import KE.KTryMore
import PyProof.InstStoreFacts
import PyProof.ExcBaseAll.ValueError
import PyProof.NsDelKeeps
import PyProof.FactsAll.list_1
import PyProof.ForAppend
import PyProof.Rows.StrInSeq3
import PyProof.CompUse
import PyProof.EnumMake
import PyProof.Rows.CallKwBuiltin
import OpenK.KMore
import KE.KRevSl
import PyProof.Rows.StrNews
import PyProof.StrLawsTight
import PySem.Challenge.RW_anydelay_k07_whole_named_otherwise
noncomputable section
-- CHANGE: your row's module here, as the last of these rows
set_option Elab.async false
set_option linter.all false
set_option maxRecDepth 100000
namespace L2
open PySem PySem.Spec PyProof.Rows

abbrev Key := Sum Int Str
noncomputable def keyIs : Key → Value → Bool
  | .inl k, v => Value.isInt k v
  | .inr x, v => Value.isStrOf x v
noncomputable def keyH (w : World) : Key → Int
  | .inl k => hashInt k
  | .inr x => hashStr w x
theorem keyIs_shape : ∀ {k : Key} {v : Value}, keyIs k v = true → (∃ i t, k = Sum.inl i ∧ v = Value.int i t) ∨ (∃ x t, k = Sum.inr x ∧ v = Value.str x t)
  | .inl i, v, h => by
    obtain ⟨t, e⟩ := Value.isInt_shape (k := i) (v := v) h
    exact .inl ⟨i, t, rfl, e⟩
  | .inr x, v, h => by
    obtain ⟨t, e⟩ := Value.isStrOf_shape (x := x) (v := v) h
    exact .inr ⟨x, t, rfl, e⟩
theorem keyIs_int (i : Int) (t : Tok) : keyIs (.inl i) (.int i t) = true := by simp [keyIs, Value.isInt]
theorem keyIs_str (x : Str) (t : Tok) : keyIs (.inr x) (.str x t) = true := by simp [keyIs, Value.isStrOf]
theorem key_ll (a b : Int) : decide ((Sum.inl a : Key) = Sum.inl b) = (a == b) := by
  by_cases e : a = b
  · subst e; simp
  · have h : ¬ (Sum.inl a : Key) = Sum.inl b := fun q => e (Sum.inl.inj q)
    rw [decide_eq_false h]
    exact (beq_eq_false_iff_ne.mpr e).symm
theorem key_rr (a b : Str) : decide ((Sum.inr a : Key) = Sum.inr b) = decide (a = b) := by
  by_cases e : a = b
  · subst e; simp
  · have h : ¬ (Sum.inr a : Key) = Sum.inr b := fun q => e (Sum.inr.inj q)
    rw [decide_eq_false h, decide_eq_false e]
theorem key_lr (a : Int) (b : Str) : decide ((Sum.inl a : Key) = Sum.inr b) = false := decide_eq_false (fun q => nomatch q)
theorem key_rl (a : Str) (b : Int) : decide ((Sum.inr a : Key) = Sum.inl b) = false := decide_eq_false (fun q => nomatch q)

noncomputable def mixKind (prog : Program) (w : World) : PySem.KeyKind prog w Key where
  is := keyIs
  hash := keyH w
  inj := fun v a b ha hb => by
    rcases keyIs_shape ha with ⟨i, t, rfl, rfl⟩ | ⟨x, t, rfl, rfl⟩
    · rcases keyIs_shape hb with ⟨j, u, rfl, e⟩ | ⟨y, u, rfl, e⟩
      · injection e with e1 _; rw [e1]
      · exact nomatch e
    · rcases keyIs_shape hb with ⟨j, u, rfl, e⟩ | ⟨y, u, rfl, e⟩
      · exact nomatch e
      · injection e with e1 _; rw [e1]
  byValue := fun k v h => by
    rcases keyIs_shape h with ⟨i, t, rfl, rfl⟩ | ⟨x, t, rfl, rfl⟩ <;> rfl
  pyHash := fun hv h => by
    rcases keyIs_shape hv with ⟨i, t, rfl, rfl⟩ | ⟨x, t, rfl, rfl⟩
    · exact wpAny_pyHash_int h
    · exact wpAny_pyHash_str h
  eqBool := fun hu hv h => by
    rcases keyIs_shape hu with ⟨i, t, rfl, rfl⟩ | ⟨x, t, rfl, rfl⟩
    · rcases keyIs_shape hv with ⟨j, u, rfl, rfl⟩ | ⟨y, u, rfl, rfl⟩
      · rw [key_ll] at h; exact wpAny_eqBool_int h
      · rw [key_lr] at h; exact SeqAt.EqAt.int_str i t y u _ _ _ _ h
    · rcases keyIs_shape hv with ⟨j, u, rfl, rfl⟩ | ⟨y, u, rfl, rfl⟩
      · rw [key_rl] at h; exact SeqAt.EqAt.str_int x t j u _ _ _ _ h
      · rw [key_rr] at h; exact wpAny_eqBool_str h
  «strs» := fun k x t v h => by
    rcases keyIs_shape h with ⟨i, u, rfl, e⟩ | ⟨y, u, rfl, e⟩
    · exact nomatch e
    · injection e with e1 _
      subst e1
      cases v <;> rfl

theorem mixKind_int (prog : Program) (w : World) (i : Int) (t : Tok) : (mixKind prog w).is (.inl i) (.int i t) = true := keyIs_int i t
theorem mixKind_str (prog : Program) (w : World) (x : Str) (t : Tok) : (mixKind prog w).is (.inr x) (.str x t) = true := keyIs_str x t
end L2

namespace L2
open PySem PySem.Spec PyProof.Rows

inductive V where
  | non | bl (b : Bool) | int (i : Int) | str (x : Str) | byt (b : Array UInt8) | flt (b : UInt64) | ref (a : Addr) | ty (n : String)
  deriving DecidableEq

noncomputable def RelV : V → Value → Prop
  | .non, u => u = Value.none
  | .bl b, u => u = Value.bool b
  | .int i, u => ∃ t, u = Value.int i t
  | .str x, u => ∃ t, u = Value.str x t
  | .byt b, u => ∃ t, u = Value.bytes b t
  | .flt b, u => ∃ t, u = Value.float b t
  | .ref a, u => u = Value.ref a
  | .ty n, u => u = Value.type n

abbrev Vals : List V → List Value → Prop := Paired RelV
theorem Vals.length {xs : List V} {us : List Value} (r : Vals xs us) : xs.length = us.length := Paired.length r
theorem Vals.get : ∀ {xs : List V} {us : List Value} {i : Nat} {x : V}, Vals xs us → xs[i]? = some x → ∃ u, us[i]? = some u ∧ RelV x u
  | _, _, _, _, .nil, e => by simp at e
  | _, _, 0, _, .cons r _, e => by simp at e; subst e; exact ⟨_, rfl, r⟩
  | _, _, i + 1, x, .cons _ t, e => by
    obtain ⟨u, h1, h2⟩ := Vals.get (i := i) (x := x) t (by simpa using e)
    exact ⟨u, by simpa using h1, h2⟩
theorem Vals.set {x : V} {u : Value} (r : RelV x u) : ∀ {xs : List V} {us : List Value} (i : Nat), Vals xs us → Vals (xs.set i x) (us.set i u)
  | _, _, _, .nil => .nil
  | _, _, 0, .cons _ t => .cons r t
  | _, _, i + 1, .cons q t => .cons q (Vals.set r i t)
theorem Vals.append : ∀ {xs ys : List V} {us ws : List Value}, Vals xs us → Vals ys ws → Vals (xs ++ ys) (us ++ ws)
  | _, _, _, _, .nil, s => s
  | _, _, _, _, .cons r t, s => .cons r (Vals.append t s)
theorem Vals.take : ∀ {xs : List V} {us : List Value} (n : Nat), Vals xs us → Vals (xs.take n) (us.take n)
  | _, _, 0, _ => .nil
  | _, _, _ + 1, .nil => .nil
  | _, _, n + 1, .cons r t => .cons r (Vals.take n t)
theorem Vals.drop : ∀ {xs : List V} {us : List Value} (n : Nat), Vals xs us → Vals (xs.drop n) (us.drop n)
  | _, _, 0, r => r
  | _, _, _ + 1, .nil => .nil
  | _, _, n + 1, .cons _ t => Vals.drop n t

noncomputable def RelO : Option V → Option Value → Prop
  | some v, some u => RelV v u
  | none, none => True
  | _, _ => False
noncomputable def KV {κ : Type} : List (κ × V) → List (κ × Value) → Prop := Paired fun (p : κ × V) (q : κ × Value) => p.1 = q.1 ∧ RelV p.2 q.2

noncomputable def kV : Key → V
  | .inl i => .int i
  | .inr x => .str x

inductive HO where
  /-- a list -/
  | lst (xs : List V)
  /-- a tuple (never changes) -/
  | tup (xs : List V)
  /-- a dict whose keys are ints and texts; one whose keys are tuples of ints and texts (the empty one is both) -/
  | dK (kvs : List (Key × V)) | dT (kvs : List (List Key × V))
  /-- a set of ints: its members, its size -/
  | set (S : Int → Bool) (n : Nat)
  /-- an instance of the class at C, its dict at dx, its attributes -/
  | ins (C dx : Addr) (fs : List (Str × V))
  /-- the dict of the instance at x -/
  | own (x : Addr)
  /-- the dict of an exception -/
  | xd (fs : List (Str × V))
  /-- a bound method, f of x -/
  | met (f x : Addr)
  /-- a range object lo, lo + 1, .. below hi -/
  | rng (lo hi : Int)
  /-- a thing that is known to the object (the script; a dict while a loop walks it): read, never written while it is so -/
  | frz (o : Obj) (u : HO)
  /-- a code object's table -/
  | tbl (ps : Array Value)
  /-- any other thing, by what is true of its one object (a def of one's own: SetO a S n := HO.ext fun h => ..) -/
  | ext (φ : Heap → Prop)

abbrev Hp := Addr → Option HO
noncomputable def upd (H : Hp) (a : Addr) (o : HO) : Hp := fun b => if b = a then some o else H b
theorem upd_same {H : Hp} {a : Addr} {o : HO} : upd H a o a = some o := by unfold upd; rw [if_pos rfl]
theorem upd_ne {H : Hp} {a b : Addr} {o : HO} (h : b ≠ a) : upd H a o b = H b := by unfold upd; rw [if_neg h]
theorem ne_of {H : Hp} {a b : Addr} {o u : HO} (h : H a = some o) (h' : H b = some u) (d : o ≠ u) : a ≠ b := by
  intro e; subst e; rw [h] at h'; exact d (Option.some.inj h')
theorem ne_of_none {H : Hp} {a b : Addr} {o : HO} (h : H a = some o) (h' : H b = none) : a ≠ b := by
  intro e; subst e; rw [h] at h'; cases h'

section
variable (P : Program) (w : World)
noncomputable def ObjOk (H : Hp) (h : Heap) (a : Addr) : HO → Prop
  | .lst xs => xs.length ≤ sizeLine ∧ ∃ (its : List Value) (n : Nat), Vals xs its ∧ h.get? a = some { cls := .type "list", data := .seq its.toArray n }
  | .tup xs => xs.length ≤ sizeLine ∧ ∃ its : List Value, Vals xs its ∧ IsTup h a its.toArray
  | .dK kvs => kvs.length ≤ sizeLine ∧ (a == sysModules) = false ∧ ∃ vs, KV kvs vs ∧ h.DictOf (mixKind P w) a vs
  | .dT kvs => kvs.length ≤ sizeLine ∧ (a == sysModules) = false ∧ ∃ xs : List (List Key × Addr × Value),
      Paired (fun (p : List Key × V) (q : List Key × Addr × Value) => p.1 = q.1 ∧ H q.2.1 = some (.tup (p.1.map kV)) ∧ RelV p.2 q.2.2) kvs xs ∧
      ∃ o es ep, h.get? a = some o ∧ o.ExactDict ∧ o.data = .dict es ep ∧ es.toList = xs.map (entryOfKey (tupleKind (mixKind P w))) ∧ (xs.map (·.1)).Nodup
  | .set S n => h.SetOf (intKind P w) a S n
  | .ins C dx fs => H dx = some (.own a) ∧ fs.length ≤ 1000 ∧ dx ≠ a ∧ h.get? a = some (PySem.W.instObj C dx) ∧
      ∃ mA, h.Ns1 dx mA ∧ (∀ f, RelO (fs.lookup f) (mA f)) ∧ PySem.Within mA (fs.map (·.1))
  | .own _ => ∃ o, h.get? a = some o
  | .xd fs => ∃ mA, h.Ns1 a mA ∧ ∀ f, RelO (fs.lookup f) (mA f)
  | .rng lo hi => ∃ t u v, h.get? a = some { cls := .type "range", data := .fields #[.int lo t, .int hi u, .int 1 v] }
  | .frz o u => h.get? a = some o ∧ ObjOk H h a u
  | .tbl ps => h.get? a = some { cls := .none, data := .fields ps }
  | .met f x => h.get? a = some (PySem.W.methodObj (.ref f) (.ref x))
  | .ext φ => φ h ∧ (∃ o, h.get? a = some o) ∧ ∀ h1 h2 : Heap, φ h1 → (∀ o, h1.get? a = some o → h2.get? a = some o) → φ h2
noncomputable def HOk (H : Hp) (h : Heap) : Prop := ∀ a o, H a = some o → ObjOk P w H h a o
end

section
variable {P : Program} {w : World} {H H' : Hp} {h h' : Heap} {a : Addr} {o : HO}
theorem ObjOk.lt (x : ObjOk P w H h a o) : a < h.objs.size := by
  cases o with
  | lst xs => obtain ⟨_, _, _, _, e⟩ := x; exact Heap.lt_size e
  | tup xs => obtain ⟨_, _, _, p⟩ := x; exact p.lt
  | dK kvs => obtain ⟨_, _, _, _, o, _, _, e, _⟩ := x; exact Heap.lt_size e
  | dT kvs => obtain ⟨_, _, _, _, o, _, _, e, _⟩ := x; exact Heap.lt_size e
  | set S n => obtain ⟨o, _, _, _, e, _⟩ := x; exact Heap.lt_size e
  | ins C dx fs => obtain ⟨_, _, _, e, _⟩ := x; exact Heap.lt_size e
  | own y => obtain ⟨_, e⟩ := x; exact Heap.lt_size e
  | xd fs => obtain ⟨_, ⟨_, _, _, e, _⟩, _⟩ := x; exact Heap.lt_size e
  | rng lo hi => obtain ⟨_, _, _, e⟩ := x; exact Heap.lt_size e
  | frz ob u => obtain ⟨e, _⟩ := x; exact Heap.lt_size e
  | tbl ps => exact Heap.lt_size (show h.get? a = some _ from x)
  | met f y => exact Heap.lt_size (show h.get? a = some _ from x)
  | ext φ => obtain ⟨_, ⟨_, e⟩, _⟩ := x; exact Heap.lt_size e
theorem Paired.mapP {α β : Type} {F G : α → β → Prop} : ∀ {l₁ : List α} {l₂ : List β}, Paired F l₁ l₂ → (∀ a b, F a b → G a b) → Paired G l₁ l₂
  | _, _, .nil, _ => .nil
  | _, _, .cons r t, f => .cons (f _ _ r) (Paired.mapP t f)
theorem ObjOk.stay (x : ObjOk P w H h a o) (k : ∀ b u, (b = a ∨ H b = some (.own a)) → h.get? b = some u → h'.get? b = some u)
    (ho : ∀ b, H b = some (.own a) → H' b = some (.own a)) (ht : ∀ b xs, H b = some (.tup xs) → H' b = some (.tup xs)) : ObjOk P w H' h' a o := by
  induction o with
  | lst xs => obtain ⟨z, its, n, r, e⟩ := x; exact ⟨z, its, n, r, k _ _ (.inl rfl) e⟩
  | tup xs => obtain ⟨z, its, r, ob, e, c⟩ := x; exact ⟨z, its, r, ob, k _ _ (.inl rfl) e, c⟩
  | dK kvs => obtain ⟨z, y, vs, r, ob, es, ep, e, c⟩ := x; exact ⟨z, y, vs, r, ob, es, ep, k _ _ (.inl rfl) e, c⟩
  | dT kvs =>
    obtain ⟨z, y, xs, r, ob, es, ep, e, c⟩ := x
    exact ⟨z, y, xs, Paired.mapP r fun p q z => ⟨z.1, ht _ _ z.2.1, z.2.2⟩, ob, es, ep, k _ _ (.inl rfl) e, c⟩
  | set S n => obtain ⟨ob, es, ep, t, e, c⟩ := x; exact ⟨ob, es, ep, t, k _ _ (.inl rfl) e, c⟩
  | ins C dx fs =>
    obtain ⟨d, z, ne, e, mA, ⟨od, es, ep, e2, c⟩, r⟩ := x
    exact ⟨ho _ d, z, ne, k _ _ (.inl rfl) e, mA, ⟨od, es, ep, k _ _ (.inr d) e2, c⟩, r⟩
  | own y => obtain ⟨ob, e⟩ := x; exact ⟨ob, k _ _ (.inl rfl) e⟩
  | xd fs => obtain ⟨mA, ⟨od, es, ep, e, c⟩, r⟩ := x; exact ⟨mA, ⟨od, es, ep, k _ _ (.inl rfl) e, c⟩, r⟩
  | rng lo hi => obtain ⟨t, u, v, e⟩ := x; exact ⟨t, u, v, k _ _ (.inl rfl) e⟩
  | frz ob u ih => obtain ⟨e, q⟩ := x; exact ⟨k _ _ (.inl rfl) e, ih q⟩
  | tbl ps =>
    have e : h.get? a = some { cls := .none, data := .fields ps } := x
    show h'.get? a = some { cls := .none, data := .fields ps }
    exact k a _ (.inl rfl) e
  | met f y =>
    have e : h.get? a = some (PySem.W.methodObj (.ref f) (.ref y)) := x
    show h'.get? a = some (PySem.W.methodObj (.ref f) (.ref y))
    exact k a _ (.inl rfl) e
  | ext φ => obtain ⟨p, ⟨o, e⟩, st⟩ := x; exact ⟨st _ _ p fun o q => k _ _ (.inl rfl) q, ⟨o, k _ _ (.inl rfl) e⟩, st⟩
theorem HOk.lt (x : HOk P w H h) (e : H a = some o) : a < h.objs.size := (x a o e).lt
theorem HOk.fresh (x : HOk P w H h) (e : h.objs.size ≤ a) : H a = none := by
  cases q : H a with
  | none => rfl
  | some u => exact absurd (Nat.lt_of_lt_of_le (x.lt q) e) (Nat.lt_irrefl _)
theorem HOk.kept (x : HOk P w H h) (k : ∀ b u, h.get? b = some u → h'.get? b = some u) : HOk P w H h' := fun a o e =>
  (x a o e).stay (fun b u _ q => k b u q) (fun _ q => q) fun _ _ q => q
theorem HOk.laid (x : HOk P w H h) (k : ∀ b u, h.get? b = some u → h'.get? b = some u) (hp : h.objs.size ≤ a) (new : ObjOk P w (upd H a o) h' a o) : HOk P w (upd H a o) h' := fun b u e => by
  have hn := x.fresh hp
  by_cases hb : b = a
  · subst hb; rw [upd_same] at e; cases e; exact new
  · rw [upd_ne hb] at e
    exact (x b u e).stay (fun c v _ q => k c v q) (fun c q => by rw [upd_ne (ne_of_none q hn)]; exact q) fun c xs q => by rw [upd_ne (ne_of_none q hn)]; exact q
end

noncomputable def Rd (H : Hp) (a : Addr) (u : HO) : Prop := H a = some u ∨ ∃ o, H a = some (.frz o u)
theorem Rd.ok {P : Program} {w : World} {H : Hp} {h : Heap} {a : Addr} {u : HO} (r : Rd H a u) (x : HOk P w H h) : ObjOk P w H h a u := by
  rcases r with r | ⟨o, r⟩
  · exact x a u r
  · obtain ⟨_, q⟩ := x a _ r
    exact q
noncomputable def Mut : Option HO → Prop
  | some (.lst _) => True
  | some (.dK _) => True
  | some (.dT _) => True
  | some (.set _ _) => True
  | some (.ins _ _ _) => True
  | some (.ext _) => True
  | _ => False
section
variable {P : Program} {w : World} {H : Hp} {h h' : Heap} {x e : Addr} {o' : HO}
theorem HOk.write (ok : HOk P w H h) (mu : Mut (H x)) (he : e = x ∨ H e = some (.own x)) (k : ∀ b u, b ≠ e → h.get? b = some u → h'.get? b = some u) (heo : ∃ u, h'.get? e = some u)
    (new : ObjOk P w (upd H x o') h' x o') : HOk P w (upd H x o') h' := fun b u q => by
  have nown : ∀ c y, H c = some (.own y) → c ≠ x := fun c y r z => by subst z; rw [r] at mu; exact mu
  have ntup : ∀ c xs, H c = some (.tup xs) → c ≠ x := fun c xs r z => by subst z; rw [r] at mu; exact mu
  by_cases hb : b = x
  · subst hb; rw [upd_same] at q; cases q; exact new
  · rw [upd_ne hb] at q
    by_cases hbe : b = e
    · have q' : H b = some (.own x) := by
        rcases he with z | z
        · exact absurd (hbe.trans z) hb
        · rw [hbe]; exact z
      rw [q] at q'; cases q'
      obtain ⟨v, hv⟩ := heo
      exact ⟨v, by rw [hbe]; exact hv⟩
    · refine (ok b u q).stay (fun c v hc r => k c v ?_ r) (fun c r => by rw [upd_ne (nown c b r)]; exact r) fun c xs r => by rw [upd_ne (ntup c xs r)]; exact r
      rcases hc with rfl | hc
      · exact hbe
      · rintro rfl
        rcases he with z | z
        · exact nown c b hc z
        · rw [hc] at z; cases z; exact hb rfl
end

structure Un (fs ex : List Addr) (H H' : Hp) (h h' : Heap) : Prop where
  keep : ∀ b o, h.get? b = some o → H b = none → b ∉ fs → b ∉ ex → h'.get? b = some o
  slot : ∀ b o, h.get? b = some o → H b = none → b ∈ fs → b ∉ ex → ∃ sl, h'.get? b = some { o with slots := sl }
  free : ∀ b o, h.get? b = some o → H b = none → b ∉ ex → H' b = none
  there : ∀ b o, h.get? b = some o → b ∉ ex → ∃ o', h'.get? b = some o'
  tups : ∀ b xs, H b = some (.tup xs) → H' b = some (.tup xs)
  frzs : ∀ b o u, H b = some (.frz o u) → H' b = some (.frz o u)
  tbls : ∀ b ps, H b = some (.tbl ps) → ∃ more, H' b = some (.tbl (ps ++ more))
section
variable {fs fs' ex ex' : List Addr} {H H1 H2 : Hp} {h h1 h2 h' : Heap} {a x e : Addr} {o : HO}
theorem Un.any (u : Un fs ex H H1 h h1) {b : Addr} {ob : Obj} (q : h.get? b = some ob) (n : H b = none) (hx : b ∉ ex) : ∃ sl, h1.get? b = some { ob with slots := sl } := by
  by_cases hb : b ∈ fs
  · exact u.slot b ob q n hb hx
  · exact ⟨ob.slots, u.keep b ob q n hb hx⟩
theorem Un.kept (k : ∀ b u, h.get? b = some u → h'.get? b = some u) : Un fs ex H H h h' :=
  ⟨fun b ob q _ _ _ => k b ob q, fun b ob q _ _ _ => ⟨ob.slots, k b ob q⟩, fun _ _ _ n _ => n, fun b ob q _ => ⟨ob, k b ob q⟩, fun _ _ q => q, fun _ _ _ q => q, fun _ ps q => ⟨#[], by rw [q]; simp⟩⟩
theorem Un.refl : Un fs ex H H h h := Un.kept fun _ _ q => q
theorem Un.laid (k : ∀ b u, h.get? b = some u → h'.get? b = some u) (hp : h.objs.size ≤ a) (hn : H a = none) : Un fs ex H (upd H a o) h h' where
  keep := fun b u q _ _ _ => k b u q
  slot := fun b u q _ _ _ => ⟨u.slots, k b u q⟩
  free := fun b u q n _ => by rw [upd_ne (Nat.ne_of_lt (Nat.lt_of_lt_of_le (Heap.lt_size q) hp))]; exact n
  there := fun b u q _ => ⟨u, k b u q⟩
  tups := fun b xs q => by rw [upd_ne (ne_of_none q hn)]; exact q
  frzs := fun b u xs q => by rw [upd_ne (ne_of_none q hn)]; exact q
  tbls := fun b ps q => ⟨#[], by rw [upd_ne (ne_of_none q hn), q]; simp⟩
theorem Un.write (mu : Mut (H x)) (he : e = x ∨ H e = some (.own x)) (k : ∀ b u, b ≠ e → h.get? b = some u → h'.get? b = some u) (heo : ∃ u, h'.get? e = some u) : Un fs ex H (upd H x o) h h' := by
  have hx : ∀ b, H b = none → b ≠ x := fun b n z => by subst z; rw [n] at mu; exact mu
  have hb : ∀ b, H b = none → b ≠ e := fun b n z => by
    subst z
    rcases he with r | r
    · exact hx b n r
    · rw [n] at r; cases r
  have hm : ∀ b u, H b = some u → ¬ Mut (some u) → b ≠ x := fun b u q nm z => by subst z; rw [q] at mu; exact nm mu
  refine ⟨fun b u q n _ _ => k b u (hb b n) q, fun b u q n _ _ => ⟨u.slots, k b u (hb b n) q⟩, fun b u q n _ => by rw [upd_ne (hx b n)]; exact n, fun b u q _ => ?_,
    fun b xs q => by rw [upd_ne (hm b _ q fun z => z)]; exact q, fun b u xs q => by rw [upd_ne (hm b _ q fun z => z)]; exact q, fun b ps q => ⟨#[], by rw [upd_ne (hm b _ q fun z => z), q]; simp⟩⟩
  by_cases hbe : b = e
  · subst hbe; exact heo
  · exact ⟨u, k b u hbe q⟩
end

noncomputable def trk (h : Heap) (H : Hp) : List Addr := (List.range h.objs.size).filter fun a => (H a).isSome
noncomputable def hidT (h : Heap) (H : Hp) : Heap := PySem.W.hideAll h (trk h H)
theorem hidT_size (h : Heap) (H : Hp) : (hidT h H).objs.size = h.objs.size := PySem.W.hideAll_size _ _
theorem hidT_get {h : Heap} {H : Hp} {b : Addr} {o : Obj} (e : h.get? b = some o) (n : H b = none) : (hidT h H).get? b = some o :=
  PySem.W.hideAll_get _ e fun hm => by
    have q : (H b).isSome = true := (List.mem_filter.mp hm).2
    rw [n] at q; simp at q
theorem of_hidT {h : Heap} {H : Hp} {b : Addr} {o : Obj} (e : (hidT h H).get? b = some o) : h.get? b = some o ∧ H b = none := by
  have e' : h.get? b = some o := PySem.W.of_hideAll (trk h H) e
  refine ⟨e', ?_⟩
  cases q : H b with
  | none => rfl
  | some x =>
    have hm : b ∈ trk h H := List.mem_filter.mpr ⟨List.mem_range.mpr (Heap.lt_size e'), by simp [q]⟩
    have z : (hidT h H).get? b = none := PySem.W.hideAll_none (trk h H) hm
    rw [z] at e; cases e

noncomputable def allNews (g h : Heap) (L : Addr) : List (Addr × Obj) := (List.range h.objs.size).filterMap fun a => if a = L ∨ (g.get? a).isSome = true then none else (h.get? a).map fun o => (a, o)
noncomputable def rest (g h : Heap) (L d : Addr) : List (Addr × Obj) := (allNews g h L).filter fun p => decide (p.1 ≠ d)
end L2

namespace L2
open PySem PySem.Spec PyProof.Rows

structure Mod (K : PySem.W.Frag) (mg : Str → Option Value) (base : Heap) : Prop where
  kin : K.In base
  glob : base.Ns mainGlobals mg
  blt : ∃ mb, base.Ns builtinsNs mb ∧ ∀ x : Str, x ≠ "__name__" → mb x = bootBuiltins x
  nolimit : base.NoLimit

/-- the context: a def's body (or a comprehension's block) running. base: fixed through the whole law; s₀, H₀: the entry; outer: the frames whose slots others may change (a def's callers); stack: all frames that run;
   ex: iterators that were made ahead of the entry and are walked here (a comprehension's); fn: the names whose cells were made at the entry (a def: all; a comprehension's block: its own); calm: not within an except suite; pn: pins that every state bears; xe: what is wanted of an exception that leaves the code -/
structure Cx where
  prog : Program
  w : World
  K : PySem.W.Frag
  mg : Str → Option Value
  base : Heap
  A : Around
  N : List Str
  s₀ : Shared
  H₀ : Hp
  env : Env
  outer : List Env
  stack : List Env
  ex : List Addr
  fn : Str → Bool
  calm : Bool
  pn : List (Addr × Obj)
  xe : Value → Shared → Prop
noncomputable def frs (l : List Env) : List Addr := l.filterMap (·.frame)
abbrev Cx.fs (X : Cx) : List Addr := frs X.outer

noncomputable def Vis (sc : Scope) (x : Str) : Prop := sc.names.lookup x = some .local ∨ sc.names.lookup x = some .cell ∨ sc.names.lookup x = some .free
noncomputable def Loc (sc : Scope) (x : Str) : Prop := sc.names.lookup x = some .local ∨ sc.names.lookup x = some .cell
noncomputable def Look (env : Env) (h : Heap) (m : Str → Option Value) (x : Str) (u : Value) : Prop :=
  (env.kindOf x = some .local ∧ m x = some u) ∨ ((env.kindOf x = some .cell ∨ env.kindOf x = some .free) ∧ ∃ c, env.cells.lookup x = some c ∧ h.IsCell c (some u))

structure Cx.Ok (X : Cx) : Prop where
  mod : Mod X.K X.mg X.base
  kind : X.env.scope.kind = .function
  glob : X.env.globals = mainGlobals
  blt : X.env.builtins = builtinsNs
  above : X.s₀.heap.objs.size ≤ X.env.locals
  inj : ∀ x y c, X.env.cells.lookup x = some c → X.env.cells.lookup y = some c → x = y
  has : ∀ x, (X.env.kindOf x = some .cell ∨ X.env.kindOf x = some .free) → ∃ c, X.env.cells.lookup x = some c
  cab : ∀ x c, X.fn x = true → X.env.cells.lookup x = some c → X.s₀.heap.objs.size ≤ c
  hd : X.calm = true → X.A.handled = none
  frames : X.A.frames = some X.stack
  stk : X.stack = X.outer ∨ (X.stack = X.env :: X.outer ∧ X.env.frame = some X.env.locals)
  exf : ∀ b ∈ X.ex, b ≠ X.env.locals ∧ ∀ x c, X.env.cells.lookup x = some c → c ≠ b
  bs : ∀ b o, X.base.get? b = some o → X.s₀.heap.get? b = some o ∧ X.H₀ b = none
  bsz : X.base.objs.size ≤ X.s₀.heap.objs.size
  noex : ∀ b o, X.base.get? b = some o → b ∉ X.ex
  exfs : ∀ b ∈ X.ex, b ∉ X.fs
  funs : X.s₀.heap.FunFrames X.base X.outer
  frf : ∀ b ∈ X.fs, X.H₀ b = none

structure Inv (X : Cx) (pins : List (Addr × Obj)) (σ : List (Option V)) (H : Hp) (s : Shared) : Prop where
  ok : X.Ok
  os : s.os = X.s₀.os
  bare : AllBare s.gens
  base : Un X.fs X.ex X.H₀ H X.s₀.heap s.heap
  loc : ∃ m, s.heap.Ns X.env.locals m ∧ ∀ (i : Nat) (x : Str) (v : V), X.N[i]? = some x → σ[i]? = some (some v) → Vis X.env.scope x → ∃ u, RelV v u ∧ Look X.env s.heap m x u
  cell : ∀ x c, X.env.cells.lookup x = some c → ∃ v, s.heap.IsCell c v
  free : H X.env.locals = none
  freeC : ∀ x c, X.env.cells.lookup x = some c → H c = none
  pin : ∀ p ∈ X.pn ++ pins, s.heap.get? p.1 = some p.2 ∧ H p.1 = none ∧ p.1 ≠ X.env.locals ∧ p.1 ∉ X.fs ∧ ∀ v, p.2.data ≠ .cell v
  hok : HOk X.prog X.w H s.heap
  len : σ.length = X.N.length

section
variable {X : Cx} {pins : List (Addr × Obj)} {σ : List (Option V)} {H H' : Hp} {s : Shared} {h' : Heap}

theorem Cx.Ok.nofr (ok : X.Ok) {b : Addr} {o : Obj} (e : X.base.get? b = some o) : b ∉ X.fs := fun hb => by
  have := (ok.funs.mem hb).1
  rw [e] at this; cases this
theorem Inv.bs (I : Inv X pins σ H s) : ∀ b o, X.base.get? b = some o → s.heap.get? b = some o ∧ H b = none := fun b o e =>
  ⟨I.base.keep b o (I.ok.bs b o e).1 (I.ok.bs b o e).2 (I.ok.nofr e) (I.ok.noex b o e), I.base.free b o (I.ok.bs b o e).1 (I.ok.bs b o e).2 (I.ok.noex b o e)⟩
theorem Inv.bk (I : Inv X pins σ H s) : ∀ b o, X.base.get? b = some o → s.heap.get? b = some o := fun b o e => (I.bs b o e).1
theorem Inv.mod (I : Inv X pins σ H s) : Mod X.K X.mg X.base := I.ok.mod
theorem Inv.kIn (I : Inv X pins σ H s) : X.K.In s.heap := I.ok.mod.kin.keeps I.bk
theorem Inv.fr (I : Inv X pins σ H s) : ∃ m, Fr X.base X.env.locals s.heap m :=
  let ⟨m, hn, _⟩ := I.loc
  ⟨m, hn, I.bk, Nat.le_trans I.ok.bsz I.ok.above⟩
theorem Inv.lt (I : Inv X pins σ H s) : X.env.locals < s.heap.objs.size := let ⟨_, hn, _⟩ := I.loc; hn.lt
theorem Inv.sz (I : Inv X pins σ H s) : X.s₀.heap.objs.size ≤ s.heap.objs.size := Nat.le_trans I.ok.above (Nat.le_of_lt I.lt)
theorem Inv.nofs (I : Inv X pins σ H s) {a : Addr} (h : s.heap.objs.size ≤ a) : a ∉ X.fs := fun hb => by
  obtain ⟨_, o, ho, _⟩ := I.ok.funs.mem hb
  exact absurd (Nat.lt_of_lt_of_le (Heap.lt_size ho) (Nat.le_trans I.sz h)) (Nat.lt_irrefl _)
theorem Inv.cne (I : Inv X pins σ H s) : ∀ x c, X.env.cells.lookup x = some c → c ≠ X.env.locals := fun x c e z => by
  obtain ⟨v, o, ho, hd⟩ := I.cell x c e
  obtain ⟨m, ⟨o', es, ep, ho', hd', _⟩, _⟩ := I.loc
  rw [z, ho'] at ho; cases ho; rw [hd'] at hd; cases hd
theorem Inv.funs (I : Inv X pins σ H s) : s.heap.FunFrames X.base X.outer := by
  have all : ∀ (l : List Env), (∀ b ∈ frs l, b ∈ X.fs) → X.s₀.heap.FunFrames X.base l → s.heap.FunFrames X.base l := by
    intro l
    induction l with
    | nil => intro _ _; trivial
    | cons env r ih =>
      intro hs hl
      obtain ⟨hk, ⟨L, o, hf, hn, ho, hd⟩, hr⟩ := hl
      have hL : L ∈ X.fs := hs L (by unfold frs; rw [List.filterMap_cons, hf]; exact List.mem_cons_self)
      obtain ⟨sl, e⟩ := I.base.slot L o ho (I.ok.frf L hL) hL fun z => I.ok.exfs L z hL
      exact ⟨hk, ⟨L, _, hf, hn, e, hd⟩, ih (fun b hb => hs b (by unfold frs; rw [List.filterMap_cons, hf]; exact List.mem_cons_of_mem _ hb)) hr⟩
  exact all X.outer (fun _ hb => hb) I.ok.funs

theorem Inv.stack (I : Inv X pins σ H s) : s.heap.FunFrames X.base X.stack := by
  rcases I.ok.stk with e | ⟨e, hf⟩
  · rw [e]; exact I.funs
  · rw [e]
    obtain ⟨m, hn, _⟩ := I.loc
    refine .cons (by rw [I.ok.kind]; decide) hf hn ?_ I.funs
    exact Heap.get?_none_of_le (Nat.le_trans I.ok.bsz I.ok.above)
theorem Inv.stkSub (I : Inv X pins σ H s) : ∀ b ∈ frs X.stack, b ∈ X.env.locals :: X.fs := fun b hb => by
  rcases I.ok.stk with e | ⟨e, hf⟩
  · rw [e] at hb; exact List.mem_cons_of_mem _ hb
  · rw [e] at hb
    unfold frs at hb
    rw [List.filterMap_cons, hf] at hb
    exact hb
theorem Inv.stkFree (I : Inv X pins σ H s) : ∀ b ∈ frs X.stack, H b = none := fun b hb => by
  rcases List.mem_cons.mp (I.stkSub b hb) with e | hb
  · rw [e]; exact I.free
  · obtain ⟨_, o, ho, _⟩ := I.ok.funs.mem hb
    exact I.base.free b o ho (I.ok.frf b hb) fun z => I.ok.exfs b z hb

theorem Inv.step {g' : Array GenState} {t' : Nat} {d' : Drawn} {ch : List Addr} (I : Inv X pins σ H s)
    (hch : ∀ b ∈ ch, (b ∈ X.ex ∨ X.s₀.heap.objs.size ≤ b) ∧ b ≠ X.env.locals ∧ (∀ x c, X.env.cells.lookup x = some c → c ≠ b) ∧ ∀ p ∈ X.pn ++ pins, p.1 ≠ b)
    (keep : ∀ b o, b ≠ X.env.locals → b ∉ X.fs → b ∉ ch → s.heap.get? b = some o → H b = none → h'.get? b = some o)
    (slot : ∀ b o, b ≠ X.env.locals → b ∈ X.fs → b ∉ ch → s.heap.get? b = some o → H b = none → ∃ sl, h'.get? b = some { o with slots := sl }) (free : ∀ b o, b ∉ ch → s.heap.get? b = some o → H b = none → H' b = none)
    (there : ∀ b o, b ∉ ch → s.heap.get? b = some o → ∃ o', h'.get? b = some o')
    (tups : ∀ b xs, H b = some (.tup xs) → H' b = some (.tup xs)) (frzs : ∀ b o u, H b = some (.frz o u) → H' b = some (.frz o u)) (tbls : ∀ b ps, H b = some (.tbl ps) → ∃ more, H' b = some (.tbl (ps ++ more)))
    (ns : ∀ m, s.heap.Ns X.env.locals m → h'.Ns X.env.locals m) (hok : HOk X.prog X.w H' h') (hg : AllBare g') :
    Inv X pins σ H' { s with heap := h', gens := g', drawn := d', toks := t' } := by
  have neL : ∀ b o, X.s₀.heap.get? b = some o → b ≠ X.env.locals := fun b o e => Nat.ne_of_lt (Nat.lt_of_lt_of_le (Heap.lt_size e) I.ok.above)
  have neC : ∀ b o, X.s₀.heap.get? b = some o → b ∉ X.ex → b ∉ ch := fun b o e hx hb => by
    rcases (hch b hb).1 with z | z
    · exact hx z
    · exact absurd (Nat.lt_of_lt_of_le (Heap.lt_size e) z) (Nat.lt_irrefl _)
  have cellK : ∀ x c, X.env.cells.lookup x = some c → ∀ v, s.heap.IsCell c v → h'.IsCell c v := fun x c e v ⟨o, ho, hd⟩ => by
    have nch : c ∉ ch := fun z => (hch c z).2.2.1 x c e rfl
    by_cases hc : c ∈ X.fs
    · obtain ⟨sl, q⟩ := slot c o (I.cne x c e) hc nch ho (I.freeC x c e)
      exact ⟨_, q, hd⟩
    · exact ⟨o, keep c o (I.cne x c e) hc nch ho (I.freeC x c e), hd⟩
  refine ⟨I.ok, I.os, hg, ⟨fun b o e n hb hx => ?_, fun b o e n hb hx => ?_, fun b o e n hx => ?_, fun b o e hx => ?_, fun b xs e => tups b xs (I.base.tups b xs e), fun b o xs e => frzs b o xs (I.base.frzs b o xs e), fun b ps e => ?_⟩, ?_, fun x c e => ?_, ?_, fun x c e => ?_, fun p hp => ?_, hok, I.len⟩
  · exact keep b o (neL b o e) hb (neC b o e hx) (I.base.keep b o e n hb hx) (I.base.free b o e n hx)
  · obtain ⟨sl, e1⟩ := I.base.slot b o e n hb hx
    obtain ⟨sl', e2⟩ := slot b _ (neL b o e) hb (neC b o e hx) e1 (I.base.free b o e n hx)
    exact ⟨sl', e2⟩
  · obtain ⟨o', e1⟩ := I.base.there b o e hx
    exact free b o' (neC b o e hx) e1 (I.base.free b o e n hx)
  · obtain ⟨o', e1⟩ := I.base.there b o e hx
    exact there b o' (neC b o e hx) e1
  · obtain ⟨m1, e1⟩ := I.base.tbls b ps e
    obtain ⟨m2, e2⟩ := tbls b _ e1
    exact ⟨m1 ++ m2, by rw [e2, Array.append_assoc]⟩
  · obtain ⟨m, hn, hl⟩ := I.loc
    refine ⟨m, ns m hn, fun i x v e1 e2 e3 => ?_⟩
    obtain ⟨u, r, l⟩ := hl i x v e1 e2 e3
    refine ⟨u, r, ?_⟩
    rcases l with l | ⟨k, c, e, z⟩
    · exact .inl l
    · exact .inr ⟨k, c, e, cellK x c e _ z⟩
  · obtain ⟨v, z⟩ := I.cell x c e
    exact ⟨v, cellK x c e v z⟩
  · obtain ⟨m, ⟨o, _, _, ho, _⟩, _⟩ := I.loc
    exact free _ o (fun z => (hch _ z).2.1 rfl) ho I.free
  · obtain ⟨v, o, ho, hd⟩ := I.cell x c e
    exact free c o (fun z => (hch c z).2.2.1 x c e rfl) ho (I.freeC x c e)
  · obtain ⟨e, n, ne, nf, d⟩ := I.pin p hp
    have nch : p.1 ∉ ch := fun z => (hch p.1 z).2.2.2 p hp rfl
    exact ⟨keep p.1 p.2 ne nf nch e n, free p.1 p.2 nch e n, ne, nf, d⟩
theorem Inv.un {t' : Nat} (I : Inv X pins σ H s) (u : Un X.fs [] H H' s.heap h') (hok : HOk X.prog X.w H' h') : Inv X pins σ H' { s with heap := h', toks := t' } := by
  obtain ⟨m, ⟨o, es, ep, ho, r⟩, _⟩ := id I.loc
  obtain ⟨sl, hL⟩ := u.any ho I.free (by simp)
  exact I.step (g' := s.gens) (d' := s.drawn) (ch := []) (fun _ z => nomatch z) (fun b o _ hb _ e n => u.keep b o e n hb (by simp)) (fun b o _ hb _ e n => u.slot b o e n hb (by simp)) (fun b o _ e n => u.free b o e n (by simp)) (fun b o _ e => u.there b o e (by simp)) u.tups u.frzs u.tbls (fun m' hm => by
    obtain ⟨o', es', ep', ho', r'⟩ := hm
    rw [ho] at ho'; cases ho'
    exact ⟨_, es', ep', hL, r'⟩) hok I.bare
theorem Inv.call {g' : Array GenState} {t' : Nat} {d' : Drawn} {ch : List Addr} (I : Inv X pins σ H s) (u : Un (frs X.stack) ch H H' s.heap h') (hok : HOk X.prog X.w H' h') (hg : AllBare g')
    (hch : ∀ b ∈ ch, (b ∈ X.ex ∨ X.s₀.heap.objs.size ≤ b) ∧ b ≠ X.env.locals ∧ (∀ x c, X.env.cells.lookup x = some c → c ≠ b) ∧ ∀ p ∈ X.pn ++ pins, p.1 ≠ b) :
    Inv X pins σ H' { s with heap := h', gens := g', drawn := d', toks := t' } := by
  obtain ⟨m, ⟨o, es, ep, ho, r⟩, _⟩ := id I.loc
  obtain ⟨sl, hL⟩ := u.any ho I.free fun z => (hch _ z).2.1 rfl
  exact I.step (ch := ch) hch (fun b o hL hb hc e n => u.keep b o e n (fun z => (List.mem_cons.mp (I.stkSub b z)).elim hL hb) hc) (fun b o _ _ hc e n => u.any e n hc) (fun b o hc e n => u.free b o e n hc) (fun b o hc e => u.there b o e hc) u.tups u.frzs u.tbls (fun m' hm => by
    obtain ⟨o', es', ep', ho', r'⟩ := hm
    rw [ho] at ho'; cases ho'
    exact ⟨_, es', ep', hL, r'⟩) hok hg
theorem Inv.turned {t' : Nat} {it : Addr} (I : Inv X pins σ H s) (k : ∀ b o, b ≠ it → s.heap.get? b = some o → h'.get? b = some o) (hn : H it = none) (hL : it ≠ X.env.locals)
    (h1 : it ∈ X.ex ∨ X.s₀.heap.objs.size ≤ it) (h2 : ∀ x c, X.env.cells.lookup x = some c → c ≠ it) (h3 : ∀ p ∈ X.pn ++ pins, p.1 ≠ it) : Inv X pins σ H { s with heap := h', toks := t' } := by
  have nit : ∀ b u, H b = some u → b ≠ it := fun b u e z => by rw [z, hn] at e; cases e
  refine I.step (g' := s.gens) (d' := s.drawn) (ch := [it]) (fun b hb => ?_) (fun b o _ _ hc e _ => k b o (fun z => hc (by simp [z])) e) (fun b o _ _ hc e _ => ⟨o.slots, k b o (fun z => hc (by simp [z])) e⟩) (fun _ _ _ _ n => n)
    (fun b o hc e => ⟨o, k b o (fun z => hc (by simp [z])) e⟩) (fun _ _ e => e) (fun _ _ _ e => e) (fun b ps e => ⟨#[], by rw [e]; simp⟩) (fun m hm => ?_) (fun b u e => ?_) I.bare
  · have e : b = it := by simpa using hb
    subst e
    exact ⟨h1, hL, h2, h3⟩
  · obtain ⟨o, es, ep, ho, r⟩ := hm
    exact ⟨o, es, ep, k _ o (Ne.symm hL) ho, r⟩
  · refine (I.hok b u e).stay (fun c v hc q => k c v ?_ q) (fun _ q => q) fun _ _ q => q
    rcases hc with z | z
    · rw [z]; exact nit b u e
    · exact nit c _ z
theorem Inv.tok (I : Inv X pins σ H s) (t : Nat) : Inv X pins σ H { s with toks := t } := I.un (h' := s.heap) (t' := t) Un.refl I.hok
theorem Inv.kept {t' : Nat} (I : Inv X pins σ H s) (k : ∀ b u, s.heap.get? b = some u → h'.get? b = some u) : Inv X pins σ H { s with heap := h', toks := t' } := I.un (Un.kept k) (I.hok.kept k)
theorem Inv.laid {a : Addr} {o : HO} {t' : Nat} (I : Inv X pins σ H s) (k : ∀ b u, s.heap.get? b = some u → h'.get? b = some u) (hp : s.heap.objs.size ≤ a) (new : ObjOk X.prog X.w (upd H a o) h' a o) :
    Inv X pins σ (upd H a o) { s with heap := h', toks := t' } := I.un (Un.laid k hp (I.hok.fresh hp)) (I.hok.laid k hp new)
theorem Inv.write {x e : Addr} {o : HO} {t' : Nat} (I : Inv X pins σ H s) (mu : Mut (H x)) (he : e = x ∨ H e = some (.own x)) (k : ∀ b u, b ≠ e → s.heap.get? b = some u → h'.get? b = some u) (heo : ∃ u, h'.get? e = some u)
    (new : ObjOk X.prog X.w (upd H x o) h' x o) : Inv X pins σ (upd H x o) { s with heap := h', toks := t' } := I.un (Un.write mu he k heo) (I.hok.write mu he k heo new)
theorem Inv.weak {σ' : List (Option V)} (I : Inv X pins σ H s) (hl : σ'.length = σ.length) (w : ∀ (i : Nat) v, σ'[i]? = some (some v) → σ[i]? = some (some v)) : Inv X pins σ' H s :=
  ⟨I.ok, I.os, I.bare, I.base, let ⟨m, hn, hl'⟩ := I.loc; ⟨m, hn, fun i x v e1 e2 e3 => hl' i x v e1 (w i v e2) e3⟩, I.cell, I.free, I.freeC, I.pin, I.hok, hl.trans I.len⟩
theorem Inv.pins_of {pins' : List (Addr × Obj)} (I : Inv X pins σ H s) (h : ∀ p ∈ pins', s.heap.get? p.1 = some p.2 ∧ H p.1 = none ∧ p.1 ≠ X.env.locals ∧ p.1 ∉ X.fs ∧ ∀ v, p.2.data ≠ .cell v) : Inv X pins' σ H s :=
  ⟨I.ok, I.os, I.bare, I.base, I.loc, I.cell, I.free, I.freeC, fun p hp => (List.mem_append.mp hp).elim (fun z => I.pin p (List.mem_append_left _ z)) (h p), I.hok, I.len⟩

theorem nodup_ix {N : List Str} (hN : N.Nodup) {i j : Nat} {x : Str} (a : N[i]? = some x) (b : N[j]? = some x) : i = j := by
  obtain ⟨h1, e1⟩ := List.getElem?_eq_some_iff.mp a
  obtain ⟨h2, e2⟩ := List.getElem?_eq_some_iff.mp b
  exact (List.getElem_inj hN).mp (e1.trans e2.symm)

theorem store_ok2 {M : Model} {A : Around} {E : Value → Shared → Prop} {i : Nat} {x : Str} {v : V} {u : Value} {Q : Unit → Shared → Prop} (I : Inv X pins σ H s) (hN : X.N.Nodup) (hi : X.N[i]? = some x) (hx : Loc X.env.scope x) (r : RelV v u)
    (h : ∀ s', Inv X pins (σ.set i (some v)) H s' → (∃ a, Heap.SameBut a s.heap s'.heap ∧ (a = X.env.locals ∨ X.env.cells.lookup x = some a)) → Q () s') (hf : X.fn x = true ∨ X.env.scope.names.lookup x = some .local := by first | exact .inl rfl | exact .inr rfl | assumption) : wpAny M A (storeName X.env x u) Q E s := by
  obtain ⟨m, hn, hl⟩ := id I.loc
  have hcls : (X.env.scope.kind == .class || (X.env.scope.kind == .module && X.env.locals != X.env.globals)) = false := by rw [I.ok.kind]; rfl
  have hiσ : i < σ.length := by rw [I.len]; exact (List.getElem?_eq_some_iff.mp hi).1
  have cne := I.cne
  have tracked : ∀ {a : Addr} {h' : Heap}, (∃ o, s.heap.get? a = some o ∧ H a = none) → Heap.SameBut a s.heap h' → HOk X.prog X.w H h' := fun {a h'} ha hs b ob e => by
    obtain ⟨_, _, hfree⟩ := ha
    refine (I.hok b ob e).stay (fun c w' hc q => (hs.2 c ?_).trans q) (fun _ q => q) fun _ _ q => q
    rintro rfl
    rcases hc with rfl | hc
    · rw [hfree] at e; cases e
    · rw [hfree] at hc; cases hc
  rcases hx with hk | hk
  · refine wpAny_storeName_local hk hn (fun h' hn' hs => ?_) hcls
    obtain ⟨oL, _, _, hoL, _⟩ := id hn
    refine h _ ⟨I.ok, I.os, I.bare, ⟨fun b o e n hb hx => ?_, fun b o e n hb hx => ?_, I.base.free, fun b o e hx => ?_, I.base.tups, I.base.frzs, I.base.tbls⟩, ⟨_, hn', fun j y v' e1 e2 e3 => ?_⟩, fun y c e => ?_, I.free, I.freeC, fun p hp => ?_, tracked ⟨oL, hoL, I.free⟩ hs, by simpa using I.len⟩ ⟨_, hs, .inl rfl⟩
    · exact (hs.2 b (Nat.ne_of_lt (Nat.lt_of_lt_of_le (Heap.lt_size e) I.ok.above))).trans (I.base.keep b o e n hb hx)
    · obtain ⟨sl, e1⟩ := I.base.slot b o e n hb hx
      exact ⟨sl, (hs.2 b (Nat.ne_of_lt (Nat.lt_of_lt_of_le (Heap.lt_size e) I.ok.above))).trans e1⟩
    · obtain ⟨o', e1⟩ := I.base.there b o e hx
      exact ⟨o', (hs.2 b (Nat.ne_of_lt (Nat.lt_of_lt_of_le (Heap.lt_size e) I.ok.above))).trans e1⟩
    · by_cases hj : j = i
      · subst hj
        rw [hi] at e1; cases e1
        rw [List.getElem?_set_self hiσ] at e2
        cases e2
        exact ⟨u, r, .inl ⟨hk, by simp⟩⟩
      · rw [List.getElem?_set_ne (Ne.symm hj)] at e2
        obtain ⟨u', r', q⟩ := hl j y v' e1 e2 e3
        refine ⟨u', r', ?_⟩
        rcases q with ⟨k, e⟩ | ⟨k, c, e, z⟩
        · refine .inl ⟨k, ?_⟩
          have : y ≠ x := fun e => hj (nodup_ix hN e1 (e ▸ hi))
          simp [this, e]
        · exact .inr ⟨k, c, e, z.sameBut hs (cne y c e)⟩
    · obtain ⟨w', z⟩ := I.cell y c e
      exact ⟨w', z.sameBut hs (cne y c e)⟩
    · obtain ⟨e, n, ne, nf, d⟩ := I.pin p hp
      exact ⟨(hs.2 p.1 ne).trans e, n, ne, nf, d⟩
  · have hfn : X.fn x = true := by
      rcases hf with z | z
      · exact z
      · rw [z] at hk; cases hk
    obtain ⟨c, hc⟩ := I.ok.has x (.inl hk)
    obtain ⟨w', z⟩ := I.cell x c hc
    refine wpAny_storeName_cell I.ok.kind hk hc z (fun h' hc' hs => ?_)
    obtain ⟨oc, hoc, hocd⟩ := id z
    refine h { s with heap := h' } ⟨I.ok, I.os, I.bare, ⟨fun b o e n hb hx => ?_, fun b o e n hb hx => ?_, I.base.free, fun b o e hx => ?_, I.base.tups, I.base.frzs, I.base.tbls⟩, ⟨m, hn.sameBut hs (Ne.symm (cne x c hc)), fun j y v' e1 e2 e3 => ?_⟩, fun y c' e => ?_, I.free, I.freeC, fun p hp => ?_, tracked ⟨oc, hoc, I.freeC x c hc⟩ hs, by simpa using I.len⟩ ⟨c, hs, .inr hc⟩
    · exact (hs.2 b (Nat.ne_of_lt (Nat.lt_of_lt_of_le (Heap.lt_size e) (I.ok.cab x c hfn hc)))).trans (I.base.keep b o e n hb hx)
    · obtain ⟨sl, e1⟩ := I.base.slot b o e n hb hx
      exact ⟨sl, (hs.2 b (Nat.ne_of_lt (Nat.lt_of_lt_of_le (Heap.lt_size e) (I.ok.cab x c hfn hc)))).trans e1⟩
    · obtain ⟨o', e1⟩ := I.base.there b o e hx
      exact ⟨o', (hs.2 b (Nat.ne_of_lt (Nat.lt_of_lt_of_le (Heap.lt_size e) (I.ok.cab x c hfn hc)))).trans e1⟩
    · by_cases hj : j = i
      · subst hj
        rw [hi] at e1; cases e1
        rw [List.getElem?_set_self hiσ] at e2
        cases e2
        exact ⟨u, r, .inr ⟨.inl hk, c, hc, hc'⟩⟩
      · rw [List.getElem?_set_ne (Ne.symm hj)] at e2
        obtain ⟨u', r', q⟩ := hl j y v' e1 e2 e3
        refine ⟨u', r', ?_⟩
        rcases q with q | ⟨k, c', e, z'⟩
        · exact .inl q
        · refine .inr ⟨k, c', e, z'.sameBut hs ?_⟩
          rintro rfl
          exact hj (nodup_ix hN e1 (I.ok.inj _ _ _ e hc ▸ hi))
    · by_cases hcc : c' = c
      · subst hcc; exact ⟨_, hc'⟩
      · obtain ⟨w2, z2⟩ := I.cell y c' e
        exact ⟨w2, z2.sameBut hs hcc⟩
    · obtain ⟨e, n, ne, nf, d⟩ := I.pin p hp
      refine ⟨(hs.2 p.1 ?_).trans e, n, ne, nf, d⟩
      intro q
      rw [q, hoc] at e
      have q' : oc = p.2 := Option.some.inj e
      exact d w' (by rw [← q']; exact hocd)
theorem store_ok {M : Model} {A : Around} {E : Value → Shared → Prop} {i : Nat} {x : Str} {v : V} {u : Value} {Q : Unit → Shared → Prop} (I : Inv X pins σ H s) (hN : X.N.Nodup) (hi : X.N[i]? = some x) (hx : Loc X.env.scope x) (r : RelV v u)
    (h : ∀ s', Inv X pins (σ.set i (some v)) H s' → Q () s') (hf : X.fn x = true ∨ X.env.scope.names.lookup x = some .local := by first | exact .inl rfl | exact .inr rfl | assumption) : wpAny M A (storeName X.env x u) Q E s :=
  store_ok2 I hN hi hx r (fun s' I' _ => h s' I') hf
theorem Inv.call' {s' : Shared} {ch : List Addr} (I : Inv X pins σ H s) (ho : s'.os = s.os) (u : Un (frs X.stack) ch H H' s.heap s'.heap) (hok : HOk X.prog X.w H' s'.heap) (hg : AllBare s'.gens)
    (hch : ∀ b ∈ ch, (b ∈ X.ex ∨ X.s₀.heap.objs.size ≤ b) ∧ b ≠ X.env.locals ∧ (∀ x c, X.env.cells.lookup x = some c → c ≠ b) ∧ ∀ p ∈ X.pn ++ pins, p.1 ≠ b) : Inv X pins σ H' s' := by
  obtain ⟨h', g', d', t', o'⟩ := s'
  have e : o' = s.os := ho
  subst e
  exact I.call (g' := g') (t' := t') (d' := d') u hok hg hch
end

abbrev XK := Value → Option Addr → Hp → Prop
abbrev St := List (Option V)
abbrev VK := V → Hp → Prop
abbrev TE := St → Hp → VK → Prop
abbrev TT := St → Hp → (Bool → Hp → Prop) → Prop
abbrev TA := St → Hp → (List V → Hp → Prop) → Prop
structure Ends where
  nx : St → Hp → Prop
  rt : VK
  bk : St → Hp → Prop := fun _ _ => False
  ct : St → Hp → Prop := fun _ _ => False
abbrev TS := Ends → St → Hp → Prop

noncomputable def EP (X : Cx) (pins : List (Addr × Obj)) (σ : St) (Q : VK) (u : Value) (s' : Shared) : Prop := ∃ v H', Inv X pins σ H' s' ∧ RelV v u ∧ Q v H'
noncomputable def TP (X : Cx) (pins : List (Addr × Obj)) (σ : St) (Q : Bool → Hp → Prop) (b : Bool) (s' : Shared) : Prop := ∃ H', Inv X pins σ H' s' ∧ Q b H'
noncomputable def AP (X : Cx) (pins : List (Addr × Obj)) (σ : St) (Q : List V → Hp → Prop) (us : List Value) (s' : Shared) : Prop := ∃ vs H', Inv X pins σ H' s' ∧ Vals vs us ∧ Q vs H'
noncomputable def SP (X : Cx) (pins : List (Addr × Obj)) (D : Ends) (f : Flow) (s' : Shared) : Prop :=
  match f with
  | .next => ∃ σ' H', Inv X pins σ' H' s' ∧ D.nx σ' H'
  | .brk => ∃ σ' H', Inv X pins σ' H' s' ∧ D.bk σ' H'
  | .cont => ∃ σ' H', Inv X pins σ' H' s' ∧ D.ct σ' H'
  | .ret u => ∃ v σ' H', Inv X pins σ' H' s' ∧ RelV v u ∧ D.rt v H'

noncomputable def PE (X : Cx) (e : Expr) (t : TE) : Prop :=
  ∀ (pins : List (Addr × Obj)) (s : Shared) (σ : St) (H : Hp) (Q : VK), Inv X pins σ H s → t σ H Q → wpAny (model X.prog X.w) X.A (eval e X.env) (EP X pins σ Q) X.xe s
noncomputable def PT (X : Cx) (e : Expr) (t : TT) : Prop :=
  ∀ (pins : List (Addr × Obj)) (s : Shared) (σ : St) (H : Hp) (Q : Bool → Hp → Prop), Inv X pins σ H s → t σ H Q → wpAny (model X.prog X.w) X.A (isTrue e X.env (eval e X.env)) (TP X pins σ Q) X.xe s
noncomputable def PW (X : Cx) (e : Expr) (t : TT) : Prop :=
  ∀ (whole : Sem Value) (pins : List (Addr × Obj)) (s : Shared) (σ : St) (H : Hp) (Q : Bool → Hp → Prop), Inv X pins σ H s → t σ H Q → wpAny (model X.prog X.w) X.A (isTrue e X.env whole) (TP X pins σ Q) X.xe s
theorem PW.pt {X : Cx} {e : Expr} {t : TT} (h : PW X e t) : PT X e t := h _
noncomputable def PA (X : Cx) (es : List Expr) (t : TA) : Prop :=
  ∀ (pos : Pos) (pins : List (Addr × Obj)) (s : Shared) (σ : St) (H : Hp) (Q : List V → Hp → Prop), Inv X pins σ H s → t σ H Q → wpAny (model X.prog X.w) X.A (spliced (backTo pos (starEach es X.env))) (AP X pins σ Q) X.xe s
noncomputable def PS (X : Cx) (st : Stmt) (t : TS) : Prop :=
  ∀ (pins : List (Addr × Obj)) (s : Shared) (σ : St) (H : Hp) (D : Ends), Inv X pins σ H s → t D σ H → wpAny (model X.prog X.w) X.A (exec st X.env) (SP X pins D) X.xe s
noncomputable def PSs (X : Cx) (st : List Stmt) (t : TS) : Prop :=
  ∀ (pins : List (Addr × Obj)) (s : Shared) (σ : St) (H : Hp) (D : Ends), Inv X pins σ H s → t D σ H → wpAny (model X.prog X.w) X.A (execs st X.env) (SP X pins D) X.xe s
theorem thn {α : Type} {t : Sem α} {Q Q' : α → Shared → Prop} {M : Model} {A : Around} {E : Value → Shared → Prop} {s : Shared} (h : wpAny M A t Q E s) (hQ : ∀ a s, Q a s → Q' a s) : wpAny M A t Q' E s := wpAny_mono h hQ fun _ _ x => x
end L2

namespace L2
open PySem PySem.Spec PyProof.Rows
section
variable {X : Cx}


noncomputable def tVar (i : Nat) : TE := fun σ H Q => ∃ v, σ[i]? = some (some v) ∧ Q v H
noncomputable def tC (v : V) : TE := fun _ H Q => Q v H
theorem pe_var {i : Nat} {x : Str} {pos : Pos} (hN : X.N[i]? = some x) (hv : Vis X.env.scope x) (hd : (x == ("__debug__" : Str)) = false := by decide) (hcd : (x == ("__classdict__" : Str)) = false := by decide) : PE X (.Name x pos) (tVar i) := by
  intro pins s σ H Q I h
  obtain ⟨v, e, h⟩ := h
  obtain ⟨m, hn, hl⟩ := I.loc
  obtain ⟨u, r, l⟩ := hl i x v hN e hv
  have fin : EP X pins σ Q u s := ⟨v, H, I, r, h⟩
  rcases l with ⟨hk, hm⟩ | ⟨hk, c, hc, hcell⟩
  · exact wpAny_Name (wpAny_loadName_local I.ok.kind hk hn hm fin) hd
  · rcases hk with hk | hk
    · exact wpAny_Name (wpAny_loadName_cell I.ok.kind hk hc hcell fin) hd
    · exact wpAny_Name (wpAny_loadName_free I.ok.kind hk hc hcell fin hcd) hd
theorem pe_int {i j pos} : PE X (.Constant (.int i) j pos) (tC (.int i)) := fun _ _ _ H _ I h => wpAny_Constant_int ⟨.int i, H, I.tok _, ⟨_, rfl⟩, h⟩
theorem pe_bl {b j pos} : PE X (.Constant (.bool b) j pos) (tC (.bl b)) := fun _ _ _ H _ I h => Constant_bool ⟨.bl b, H, I, rfl, h⟩
theorem pe_non {j pos} : PE X (.Constant .none j pos) (tC .non) := fun _ _ _ H _ I h => Constant_none ⟨.non, H, I, rfl, h⟩
theorem pe_str {x j pos} : PE X (.Constant (.str x) j pos) (tC (.str x)) := fun _ _ _ H _ I h => Calls.Constant_str ⟨.str x, H, I.tok _, ⟨_, rfl⟩, h⟩

noncomputable def Gl (X : Cx) (x : Str) : Prop := X.env.kindOf x = some .globalImplicit
theorem ld_glob {E : Value → Shared → Prop} {pins : List (Addr × Obj)} {s : Shared} {σ : St} {H : Hp} {x : Str} {u : Value} {pos : Pos} {Q : Value → Shared → Prop} (I : Inv X pins σ H s) (hg : Gl X x) (hm : X.mg x = some u) (h : Q u s)
    (hd : (x == ("__debug__" : Str)) = false := by decide) : wpAny (model X.prog X.w) X.A (eval (.Name x pos) X.env) Q E s :=
  Calls.Name_function_global I.ok.kind hg (Calls.loadGlobal_global (by rw [I.ok.glob]; exact I.mod.glob.keeps I.bk) hm h) hd
theorem ld_blt {E : Value → Shared → Prop} {pins : List (Addr × Obj)} {s : Shared} {σ : St} {H : Hp} {x : Str} {u : Value} {pos : Pos} {Q : Value → Shared → Prop} (I : Inv X pins σ H s) (hg : Gl X x) (hm : X.mg x = none) (hv : bootBuiltins x = some u) (h : Q u s)
    (hn : x ≠ "__name__" := by decide) (hd : (x == ("__debug__" : Str)) = false := by decide) : wpAny (model X.prog X.w) X.A (eval (.Name x pos) X.env) Q E s := by
  obtain ⟨mb, h1, h2⟩ := I.mod.blt
  exact Calls.Name_function_global I.ok.kind hg (Calls.loadGlobal_builtin (by rw [I.ok.glob]; exact I.mod.glob.keeps I.bk) hm (by rw [I.ok.blt]; exact h1.keeps I.bk) ((h2 x hn).trans hv) h) hd
theorem pe_glob {x : Str} {v : V} {u : Value} {pos : Pos} (hg : Gl X x) (hm : X.mg x = some u) (r : RelV v u) (hd : (x == ("__debug__" : Str)) = false := by decide) : PE X (.Name x pos) (tC v) :=
  fun _ _ _ H _ I h => ld_glob I hg hm ⟨v, H, I, r, h⟩ hd
theorem pe_bltn {x : Str} {v : V} {u : Value} {pos : Pos} (hg : Gl X x) (hm : X.mg x = none) (hv : bootBuiltins x = some u) (r : RelV v u) (hn : x ≠ "__name__" := by decide) (hd : (x == ("__debug__" : Str)) = false := by decide) : PE X (.Name x pos) (tC v) :=
  fun _ _ _ H _ I h => ld_blt I hg hm hv ⟨v, H, I, r, h⟩ hn hd

variable {a b : Expr} {ta tb : TE} {pos : Pos}

noncomputable def PC (X : Cx) (op : CmpOp) (a b : Expr) (t : TE) : Prop :=
  ∀ (pins : List (Addr × Obj)) (s : Shared) (σ : St) (H : Hp) (Q : VK), Inv X pins σ H s → t σ H Q →
    wpAny (model X.prog X.w) X.A (eval a X.env) (fun v s₁ => wpAny (model X.prog X.w) X.A (eval b X.env) (fun u s₂ => wpAny (model X.prog X.w) X.A (compareOp op v u) (EP X pins σ Q) X.xe s₂) X.xe s₁) X.xe s
theorem nobehind (b : Expr) {op : CmpOp} (h : op ≠ .In) (h2 : op ≠ .NotIn) : behindInMarks op b = false := by
  have e1 : (op == CmpOp.In) = false := by cases op <;> first | rfl | exact absurd rfl h
  have e2 : (op == CmpOp.NotIn) = false := by cases op <;> first | rfl | exact absurd rfl h2
  cases b <;> simp [behindInMarks, e1, e2]
noncomputable def tB (t : TE) : TT := fun σ H Q => t σ H fun x H1 => ∃ c, x = .bl c ∧ Q c H1
theorem pt_cmp {op : CmpOp} {t : TE} (h : PC X op a b t) (h1 : behindInMarks op b = false := by first | exact nobehind _ (by decide) (by decide) | rfl) : PT X (.Compare a [op] [b] pos) (tB t) := by
  intro pins s σ H Q I hw
  refine wpAny_isTrue_Compare1 (thn (h pins s σ H _ I hw) fun v s1 h1 => thn h1 fun u s2 h2 => thn h2 fun c s3 ⟨x, H1, I1, r1, q1⟩ => ?_) h1
  obtain ⟨d, rfl, q⟩ := q1
  cases r1
  exact wpAny_truthy_bool ⟨H1, I1, q⟩
theorem pt_val {e : Expr} {t : TE} (h : PE X e t) (he : ∀ whole, isTrue e X.env whole = (do let v ← whole; standAt e.pos; holding [v] (truthy v)) := by intro _; rfl) : PT X e (tB t) := by
  intro pins s σ H Q I hw
  refine isTrue_plain (thn (h pins s σ H _ I hw) fun v s1 ⟨x, H1, I1, r1, q1⟩ => ?_) (he _)
  obtain ⟨d, rfl, q⟩ := q1
  cases r1
  exact wpAny_truthy_bool ⟨H1, I1, q⟩

variable {tA tB' : TT} {rest : List Expr}
noncomputable def tAnd (t u : TT) : TT := fun σ H Q => t σ H fun c H1 => if c = true then u σ H1 Q else Q false H1
noncomputable def tOr (t u : TT) : TT := fun σ H Q => t σ H fun c H1 => if c = true then Q true H1 else u σ H1 Q
noncomputable def tNot (t : TT) : TT := fun σ H Q => t σ H fun c H1 => Q (!c) H1
theorem pw_and1 (ha : PT X a tA) : PW X (.BoolOp .And [a] pos) tA := by
  intro wh pins s σ H Q I h
  refine isTrue_and (thn (ha pins s σ H Q I h) fun c s1 e => ?_)
  cases c with
  | true => exact isTrue_and_nil e
  | false => exact e
theorem pw_or1 (ha : PT X a tA) : PW X (.BoolOp .Or [a] pos) tA := by
  intro wh pins s σ H Q I h
  refine isTrue_or (thn (ha pins s σ H Q I h) fun c s1 e => ?_)
  cases c with
  | false => exact isTrue_or_nil e
  | true => exact e
theorem pw_and (ha : PT X a tA) (hb : PW X (.BoolOp .And (b :: rest) pos) tB') : PW X (.BoolOp .And (a :: b :: rest) pos) (tAnd tA tB') := by
  intro wh pins s σ H Q I h
  refine isTrue_and (thn (ha pins s σ H _ I h) fun c s1 ⟨H1, I1, q1⟩ => ?_)
  cases c with
  | true => exact hb wh pins s1 σ H1 Q I1 q1
  | false => exact ⟨H1, I1, q1⟩
theorem pw_or (ha : PT X a tA) (hb : PW X (.BoolOp .Or (b :: rest) pos) tB') : PW X (.BoolOp .Or (a :: b :: rest) pos) (tOr tA tB') := by
  intro wh pins s σ H Q I h
  refine isTrue_or (thn (ha pins s σ H _ I h) fun c s1 ⟨H1, I1, q1⟩ => ?_)
  cases c with
  | true => exact ⟨H1, I1, q1⟩
  | false => exact hb wh pins s1 σ H1 Q I1 q1
theorem pt_not (ha : PT X a tA) : PT X (.UnaryOp .Not a pos) (tNot tA) := by
  intro pins s σ H Q I h
  exact isTrue_not (ha pins s σ H (fun c H1 => Q (!c) H1) I h)
noncomputable def tAndV (ta tb : TE) : TE := fun σ H Q => ta σ H fun x H1 => ∃ c, x = .bl c ∧ if c = true then tb σ H1 Q else Q (.bl false) H1
noncomputable def tOrV (ta tb : TE) : TE := fun σ H Q => ta σ H fun x H1 => ∃ c, x = .bl c ∧ if c = true then Q (.bl true) H1 else tb σ H1 Q
noncomputable def tNotV (ta : TE) : TE := fun σ H Q => ta σ H fun x H1 => ∃ c, x = .bl c ∧ Q (.bl (!c)) H1
theorem pe_one {op} {t : TE} (h : PE X a t) : PE X (.BoolOp op [a] pos) t := fun pins s σ H Q I hw => BoolOp_one (h pins s σ H Q I hw)
theorem pe_and (ha : PE X a ta) (hb : PE X (.BoolOp .And (b :: rest) pos) tb) : PE X (.BoolOp .And (a :: b :: rest) pos) (tAndV ta tb) := by
  intro pins s σ H Q I h
  refine BoolOp_and (thn (ha pins s σ H _ I h) fun v s1 ⟨x, H1, I1, r1, q1⟩ => ?_)
  obtain ⟨c, rfl, q1⟩ := q1
  cases r1
  refine wpAny_truthy_bool ?_
  cases c with
  | true => exact hb pins s1 σ H1 Q I1 q1
  | false => exact ⟨.bl false, H1, I1, rfl, q1⟩
theorem pe_or (ha : PE X a ta) (hb : PE X (.BoolOp .Or (b :: rest) pos) tb) : PE X (.BoolOp .Or (a :: b :: rest) pos) (tOrV ta tb) := by
  intro pins s σ H Q I h
  refine BoolOp_or (thn (ha pins s σ H _ I h) fun v s1 ⟨x, H1, I1, r1, q1⟩ => ?_)
  obtain ⟨c, rfl, q1⟩ := q1
  cases r1
  refine wpAny_truthy_bool ?_
  cases c with
  | false => exact hb pins s1 σ H1 Q I1 q1
  | true => exact ⟨.bl true, H1, I1, rfl, q1⟩
theorem pe_not (ha : PE X a ta) : PE X (.UnaryOp .Not a pos) (tNotV ta) := by
  intro pins s σ H Q I h
  refine UnaryOp_ (thn (ha pins s σ H _ I h) fun v s1 ⟨x, H1, I1, r1, q1⟩ => ?_)
  obtain ⟨c, rfl, q1⟩ := q1
  cases r1
  exact not_of (wpAny_truthy_bool ⟨.bl (!c), H1, I1, rfl, q1⟩)
noncomputable def tIf (t : TT) (ta tb : TE) : TE := fun σ H Q => t σ H fun c H1 => if c = true then ta σ H1 Q else tb σ H1 Q
theorem pe_ifExp {c : Expr} (hc : PT X c tA) (ha : PE X a ta) (hb : PE X b tb) : PE X (.IfExp c a b pos) (tIf tA ta tb) := by
  intro pins s σ H Q I h
  refine wpAny_IfExp (thn (hc pins s σ H _ I h) fun d s1 ⟨H1, I1, q1⟩ => ?_)
  cases d with
  | true => exact ha pins s1 σ H1 Q I1 q1
  | false => exact hb pins s1 σ H1 Q I1 q1
end
end L2

namespace L2
open PySem PySem.Spec PyProof.Rows

noncomputable def SqL (K : PySem.W.Frag) (H : Hp) (a : Addr) (xs : List V) : Prop :=
  Rd H a (.lst xs) ∨
    ∃ (o : Obj) (its : Array Value) (n : Nat), K.lookup a = some o ∧ o.cls = .type "list" ∧ o.dict = none ∧ o.data = .seq its n ∧ its.size ≤ sizeLine ∧ Vals xs its.toList
noncomputable def SqT (K : PySem.W.Frag) (H : Hp) (a : Addr) (xs : List V) : Prop :=
  Rd H a (.tup xs) ∨
    ∃ (o : Obj) (its : Array Value) (n : Nat), K.lookup a = some o ∧ o.cls = .type "tuple" ∧ o.data = .seq its n ∧ its.size ≤ sizeLine ∧ Vals xs its.toList
noncomputable def absV : Value → Option V
  | .none => some .non
  | .bool b => some (.bl b)
  | .int i _ => some (.int i)
  | .str x _ => some (.str x)
  | .bytes b _ => some (.byt b)
  | .float b _ => some (.flt b)
  | .ref a => some (.ref a)
  | .type n => some (.ty n)
  | _ => none
theorem RelV.abs {x : V} {u : Value} (r : RelV x u) : absV u = some x := by
  cases x with
  | non => cases r; rfl
  | bl _ => cases r; rfl
  | int _ => obtain ⟨t, rfl⟩ := r; rfl
  | str _ => obtain ⟨t, rfl⟩ := r; rfl
  | byt _ => obtain ⟨t, rfl⟩ := r; rfl
  | flt _ => obtain ⟨t, rfl⟩ := r; rfl
  | ref _ => cases r; rfl
  | ty _ => cases r; rfl
theorem RelV.inj {x y : V} {u : Value} (r : RelV x u) (q : RelV y u) : x = y := Option.some.inj (r.abs.symm.trans q.abs)
theorem Vals.inj : ∀ {xs ys : List V} {us : List Value}, Vals xs us → Vals ys us → xs = ys
  | _, _, _, .nil, .nil => rfl
  | _, _, _, .cons r t, .cons r' t' => by rw [r.inj r', Vals.inj t t']
section
variable {X : Cx} {pins : List (Addr × Obj)} {σ : St} {H : Hp} {s : Shared} {a : Addr} {xs ys : List V}
theorem SqL.of {K : PySem.W.Frag} (h : H a = some (.lst xs)) : SqL K H a xs := .inl (.inl h)
theorem SqT.of {K : PySem.W.Frag} (h : H a = some (.tup xs)) : SqT K H a xs := .inl (.inl h)
theorem Inv.list (I : Inv X pins σ H s) (h : SqL X.K H a xs) : ∃ its : List Value, Vals xs its ∧ PlainL s.heap a its.toArray ∧ xs.length ≤ sizeLine := by
  rcases h with h | ⟨o, its, n, hk, hc, hd, hs, hz, r⟩
  · obtain ⟨z, its, n, r, e⟩ := h.ok I.hok
    exact ⟨its, r, ⟨_, n, e, rfl, rfl, rfl⟩, z⟩
  · refine ⟨its.toList, r, ⟨o, n, I.kIn a o hk, hc, hd, by simpa using hs⟩, ?_⟩
    have e := r.length
    simp only [Array.length_toList] at e
    omega
theorem Inv.tuple (I : Inv X pins σ H s) (h : SqT X.K H a xs) : ∃ its : List Value, Vals xs its ∧ IsTup s.heap a its.toArray ∧ xs.length ≤ sizeLine := by
  rcases h with h | ⟨o, its, n, hk, hc, hs, hz, r⟩
  · obtain ⟨z, its, r, p⟩ := h.ok I.hok
    exact ⟨its, r, p, z⟩
  · refine ⟨its.toList, r, ⟨o, I.kIn a o hk, hc, n, by simpa using hs⟩, ?_⟩
    have e := r.length
    simp only [Array.length_toList] at e
    omega
theorem Inv.list_inj (I : Inv X pins σ H s) (h : SqL X.K H a xs) (h' : SqL X.K H a ys) : xs = ys := by
  obtain ⟨its, r, ⟨o, n, e, _, _, d⟩, _⟩ := I.list h
  obtain ⟨its', r', ⟨o', n', e', _, _, d'⟩, _⟩ := I.list h'
  rw [e] at e'; cases e'
  rw [d] at d'
  injection d' with d1 _
  have : its = its' := by simpa using congrArg Array.toList d1
  subst this
  exact r.inj r'
theorem Inv.tuple_inj (I : Inv X pins σ H s) (h : SqT X.K H a xs) (h' : SqT X.K H a ys) : xs = ys := by
  obtain ⟨its, r, ⟨o, e, _, n, d⟩, _⟩ := I.tuple h
  obtain ⟨its', r', ⟨o', e', _, n', d'⟩, _⟩ := I.tuple h'
  rw [e] at e'; cases e'
  rw [d] at d'
  injection d' with d1 _
  have : its = its' := by simpa using congrArg Array.toList d1
  subst this
  exact r.inj r'
end

abbrev Cx.wish (X : Cx) (E : Value → Shared → Prop) : Cx := { X with xe := E }
abbrev Cx.nox (X : Cx) : Cx := X.wish fun _ _ => False
theorem Cx.Ok.wish {X : Cx} (ok : X.Ok) (E : Value → Shared → Prop) : (X.wish E).Ok :=
  ⟨ok.mod, ok.kind, ok.glob, ok.blt, ok.above, ok.inj, ok.has, ok.cab, ok.hd, ok.frames, ok.stk, ok.exf, ok.bs, ok.bsz, ok.noex, ok.exfs, ok.funs, ok.frf⟩
theorem Cx.Ok.unwish {X : Cx} {E : Value → Shared → Prop} (ok : (X.wish E).Ok) : X.Ok :=
  ⟨ok.mod, ok.kind, ok.glob, ok.blt, ok.above, ok.inj, ok.has, ok.cab, ok.hd, ok.frames, ok.stk, ok.exf, ok.bs, ok.bsz, ok.noex, ok.exfs, ok.funs, ok.frf⟩
section
variable {X : Cx} {pins : List (Addr × Obj)} {σ : St} {H : Hp} {s : Shared} {E : Value → Shared → Prop}
theorem Inv.wish (I : Inv X pins σ H s) (E : Value → Shared → Prop) : Inv (X.wish E) pins σ H s := ⟨I.ok.wish E, I.os, I.bare, I.base, I.loc, I.cell, I.free, I.freeC, I.pin, I.hok, I.len⟩
theorem Inv.unwish (I : Inv (X.wish E) pins σ H s) : Inv X pins σ H s := ⟨I.ok.unwish, I.os, I.bare, I.base, I.loc, I.cell, I.free, I.freeC, I.pin, I.hok, I.len⟩
theorem SP.unwish {D : Ends} {f : Flow} {s' : Shared} (h : SP (X.wish E) pins D f s') : SP X pins D f s' := by
  cases f with
  | next => obtain ⟨σ', H', I, q⟩ := h; exact ⟨σ', H', I.unwish, q⟩
  | brk => obtain ⟨σ', H', I, q⟩ := h; exact ⟨σ', H', I.unwish, q⟩
  | cont => obtain ⟨σ', H', I, q⟩ := h; exact ⟨σ', H', I.unwish, q⟩
  | ret u => obtain ⟨v, σ', H', I, r, q⟩ := h; exact ⟨v, σ', H', I.unwish, r, q⟩
theorem PSs.nox {st : List Stmt} {t : TS} (h : PSs X.nox st t) : PSs X st t := fun pins s σ H D I hw =>
  wpAny_mono (h pins s σ H D (I.wish _) hw) (fun _ _ q => q.unwish) fun _ _ z => False.elim z
end

section
variable {X : Cx} {st : Stmt} {rest : List Stmt} {t u : TS} {e : Expr} {te : TE} {pos : Pos}
noncomputable def tNext : TS := fun D σ H => D.nx σ H
noncomputable def tSeq (t u : TS) : TS := fun D σ H => t { D with nx := u D } σ H
theorem pss_nil : PSs X [] tNext := fun _ _ σ H _ I h => wpAny_execs_nil ⟨σ, H, I, h⟩
theorem pss_cons (h1 : PS X st t) (h2 : PSs X rest u) : PSs X (st :: rest) (tSeq t u) := by
  intro pins s σ H D I h
  refine wpAny_execs_cons (thn (h1 pins s σ H { D with nx := u D } I h) fun f s1 q => ?_)
  cases f with
  | next =>
    obtain ⟨σ', H', I', q⟩ := q
    exact h2 pins s1 σ' H' D I' q
  | ret v => exact q
  | brk => exact q
  | cont => exact q
theorem pss_one (h1 : PS X st t) : PSs X [st] t := by
  intro pins s σ H D I h
  refine wpAny_execs_cons (thn (h1 pins s σ H D I h) fun f s1 q => ?_)
  cases f with
  | next => exact wpAny_execs_nil q
  | ret v => exact q
  | brk => exact q
  | cont => exact q
theorem Inv.quiet {pins : List (Addr × Obj)} {σ : St} {H : Hp} {s : Shared} (I : Inv X pins σ H s) : interactive X.env = false := by simp [interactive, I.ok.kind]
noncomputable def tDrop (te : TE) : TS := fun D σ H => te σ H fun _ H1 => D.nx σ H1
theorem ps_expr (he : PE X e te) (hs : swapsWith e none pos.line X.env = pure false := by rfl) : PS X (.Expr e pos) (tDrop te) := by
  intro pins s σ H D I h
  exact wpAny_Expr_any (thn (he pins s σ H _ I h) fun v s1 ⟨x, H1, I1, r1, q1⟩ => ⟨σ, H1, I1, q1⟩) I.quiet hs
noncomputable def tRet (te : TE) : TS := fun D σ H => te σ H D.rt
theorem ps_ret (he : PE X e te) : PS X (.Return (some e) pos) (tRet te) := by
  intro pins s σ H D I h
  exact wpAny_Return_some (thn (he pins s σ H _ I h) fun v s1 ⟨x, H1, I1, r1, q1⟩ => ⟨x, σ, H1, I1, r1, q1⟩)
noncomputable def tIfS (c : TT) (t u : TS) : TS := fun D σ H => c σ H fun b H1 => if b = true then t D σ H1 else u D σ H1
theorem ps_if {c : Expr} {a b : List Stmt} {tc : TT} (hc : PT X c tc) (ha : PSs X a t) (hb : PSs X b u) : PS X (.If c a b pos) (tIfS tc t u) := by
  intro pins s σ H D I h
  refine wpAny_If (thn (hc pins s σ H _ I h) fun d s1 ⟨H1, I1, q1⟩ => ?_)
  cases d with
  | true => exact ha pins s1 σ H1 D I1 q1
  | false => exact hb pins s1 σ H1 D I1 q1
noncomputable def tNever : TS := fun _ _ _ => False
theorem pss_never {sts : List Stmt} : PSs X sts tNever := fun _ _ _ _ _ _ h => h.elim
end

abbrev TG := V → St → Hp → (St → Hp → Prop) → Prop
abbrev TGs := List V → St → Hp → (St → Hp → Prop) → Prop
noncomputable def PG (X : Cx) (target : Expr) (t : TG) : Prop :=
  ∀ (pins : List (Addr × Obj)) (s : Shared) (σ : St) (H : Hp) (v : V) (u : Value) (Q : St → Hp → Prop), Inv X pins σ H s → RelV v u → t v σ H Q →
    wpAny (model X.prog X.w) X.A (assign target X.env u) (fun _ s' => ∃ σ' H', Inv X pins σ' H' s' ∧ Q σ' H') X.xe s
noncomputable def PGs (X : Cx) (ts : List Expr) (t : TGs) : Prop :=
  ∀ (pins : List (Addr × Obj)) (s : Shared) (σ : St) (H : Hp) (vs : List V) (us : List Value) (Q : St → Hp → Prop), Inv X pins σ H s → Vals vs us → t vs σ H Q →
    wpAny (model X.prog X.w) X.A (assignInOrder ((assignEach ts X.env).map (·.2)) us) (fun _ s' => ∃ σ' H', Inv X pins σ' H' s' ∧ Q σ' H') X.xe s
abbrev TSet := V → V → V → Hp → (Hp → Prop) → Prop
noncomputable def PSet (X : Cx) (t : TSet) : Prop :=
  ∀ (pins : List (Addr × Obj)) (s : Shared) (σ : St) (H : Hp) (o i v : V) (ov iv u : Value) (Q : Hp → Prop), Inv X pins σ H s → RelV o ov → RelV i iv → RelV v u → t o i v H Q →
    wpAny (model X.prog X.w) X.A (setItem ov iv u) (fun _ s' => ∃ H', Inv X pins σ H' s' ∧ Q H') X.xe s
section
variable {X : Cx} {pos : Pos}
noncomputable def gName (i : Nat) : TG := fun v σ H Q => Q (σ.set i (some v)) H
theorem pg_name {i : Nat} {x : Str} (hN : X.N.Nodup) (hi : X.N[i]? = some x) (hx : Loc X.env.scope x) (hf : X.fn x = true ∨ X.env.scope.names.lookup x = some .local := by first | exact .inl rfl | exact .inr rfl | assumption) : PG X (.Name x pos) (gName i) := by
  intro pins s σ H v u Q I r h
  exact wpAny_assign_Name (store_ok I hN hi hx r (fun s' I' => ⟨_, H, I', h⟩) hf)
noncomputable def gNil : TGs := fun vs σ H Q => vs = [] ∧ Q σ H
noncomputable def gCons (t : TG) (u : TGs) : TGs := fun vs σ H Q => ∃ v r, vs = v :: r ∧ t v σ H fun σ' H' => u r σ' H' Q
theorem pgs_nil : PGs X [] gNil := by
  intro pins s σ H vs us Q I r h
  obtain ⟨e, h⟩ := h
  subst e
  cases r
  exact assignInOrder_nil ⟨σ, H, I, h⟩
theorem pgs_cons {e : Expr} {es : List Expr} {t : TG} {u : TGs} (h1 : PG X e t) (h2 : PGs X es u)
    (hs : (assignEach (e :: es) X.env).map (·.2) = assign e X.env :: (assignEach es X.env).map (·.2) := by rfl) : PGs X (e :: es) (gCons t u) := by
  intro pins s σ H vs us Q I r h
  obtain ⟨v, vr, e1, h⟩ := h
  subst e1
  cases r with
  | cons r rr =>
    rw [hs]
    refine assignInOrder_cons (thn (h1 pins s σ H _ _ _ I r h) fun _ s1 ⟨σ1, H1, I1, q1⟩ => ?_)
    exact h2 pins s1 σ1 H1 _ _ Q I1 rr q1
noncomputable def gTup (K : PySem.W.Frag) (n : Nat) (t : TGs) : TG := fun v σ H Q => ∃ a xs, v = .ref a ∧ SqT K H a xs ∧ xs.length = n ∧ t xs σ H Q
theorem pg_tup {es : List Expr} {k : Nat} {t : TGs} {n : Nat} (hc : X.calm = true) (h : PGs X es t)
    (hn : (assignEach es X.env).length = n := by rfl) (hst : (assignEach es X.env).findIdx? (·.1) = none := by rfl) : PG X (.Tuple es k pos) (gTup X.K n t) := by
  intro pins s σ H v u Q I r hw
  obtain ⟨a, xs, e1, hq, hl, hw⟩ := hw
  subst e1
  cases r
  obtain ⟨its, rv, ht, hz⟩ := I.tuple hq
  refine assign_Tuple_tuple (I.ok.hd hc) ht (by simp [hn, ← hl, rv.length]) hst fun h' hx => ?_
  have I1 : Inv X pins σ H { s with heap := h' } := I.kept (t' := s.toks) fun b o e => hx b o (Nat.ne_of_lt (Heap.lt_size e)) e
  exact h pins _ σ H xs _ Q I1 (by simpa using rv) hw
noncomputable def gSub (to ti : TE) (t : TSet) : TG := fun v σ H Q => to σ H fun o H1 => ti σ H1 fun i H2 => t o i v H2 fun H3 => Q σ H3
theorem pg_sub {o i : Expr} {to ti : TE} {t : TSet} (ho : PE X o to) (hi : PE X i ti) (hs : PSet X t)
    (ha : ∀ v, assign (.Subscript o i pos) X.env v = (do
      let ov ← holding [v] (eval o X.env)
      let iv ← holding [v, ov] (eval i X.env)
      standAt pos
      holding [v, ov, iv] (setItem ov iv v)
      release [v, ov, iv] []) := by intro _; rfl) : PG X (.Subscript o i pos) (gSub to ti t) := by
  intro pins s σ H v u Q I r h
  rw [ha]
  refine wpAny_bind (wpAny_holding (thn (ho pins s σ H _ I h) fun ov s1 ⟨x, H1, I1, r1, q1⟩ => ?_))
  refine wpAny_bind (wpAny_holding (thn (hi pins s1 σ H1 _ I1 q1) fun iv s2 ⟨y, H2, I2, r2, q2⟩ => ?_))
  refine wpAny_bind (wpAny_standAt (wpAny_bind (wpAny_holding (thn (hs pins s2 σ H2 x y v ov iv u _ I2 r1 r2 r q2) fun _ s3 ⟨H3, I3, q3⟩ => ?_))))
  exact wpAny_release ⟨σ, H3, I3, q3⟩
noncomputable def tAsg (te : TE) (g : TG) : TS := fun D σ H => te σ H fun x H1 => g x σ H1 D.nx
theorem ps_asg {tg e : Expr} {te : TE} {g : TG} (he : PE X e te) (hg : PG X tg g) (hs : swapsWithSole [tg] e pos.line X.env = pure false := by rfl) (hw : swappedStores [tg] e X.env = pure none := by rfl)
    (h1 : (assignEach [tg] X.env).map (·.2) = [assign tg X.env] := by rfl) : PS X (.Assign [tg] e pos) (tAsg te g) := by
  intro pins s σ H D I h
  refine wpAny_Assign_stores (thn (he pins s σ H _ I h) fun v s1 ⟨x, H1, I1, r1, q1⟩ => ?_) hs hw
  rw [h1]
  exact thn (hg pins s1 σ H1 x v _ I1 r1 q1) fun _ s2 q => q
theorem ps_set {i : Nat} {x : Str} {e : Expr} {te : TE} {pos' : Pos} (hN : X.N.Nodup) (hi : X.N[i]? = some x) (hx : Loc X.env.scope x) (he : PE X e te) (hs : swapsWith e (some (.Name x pos')) pos.line X.env = pure false := by rfl) (hf : X.fn x = true ∨ X.env.scope.names.lookup x = some .local := by first | exact .inl rfl | exact .inr rfl | assumption) :
    PS X (.Assign [.Name x pos'] e pos) (tAsg te (gName i)) := by
  intro pins s σ H D I h
  refine wpAny_Assign_Name (thn (he pins s σ H _ I h) fun v s1 ⟨y, H1, I1, r1, q1⟩ => ?_) hs
  exact store_ok I1 hN hi hx r1 (fun s2 I2 => ⟨_, H1, I2, q1⟩) hf
end

section
variable {X : Cx} {pos : Pos}
noncomputable def tWhile (c : TT) (tb : TS) : TS := fun D σ H => ∃ W : Nat → St → Hp → Prop, (∃ m, W m σ H) ∧ ∀ m σ H, W m σ H →
  c σ H fun b H1 => if b = true then ∃ N : St → Hp → Prop, (∀ σ' H', N σ' H' → ∃ m', m' < m ∧ W m' σ' H') ∧ tb { D with nx := N, ct := N, bk := D.nx } σ H1 else D.nx σ H1
theorem ps_while {c : Expr} {body : List Stmt} {tc : TT} {tb : TS} (hp : PassesOwn (model X.prog X.w) X.A X.env X.xe) (hc : PT X c tc) (hb : PSs X body tb) : PS X (.While c body [] pos) (tWhile tc tb) := by
  intro pins s σ H D I h
  obtain ⟨W, ⟨m0, w0⟩, turn⟩ := h
  refine wpAny_While (codeAny_whileLoop (fun n s' => ∃ σ' H', Inv X pins σ' H' s' ∧ W n σ' H') ?_ m0 ⟨σ, H, I, w0⟩)
  rintro n s1 ⟨σ1, H1, I1, w1⟩
  refine wpAny_passesOwn hp (thn (hc pins s1 σ1 H1 _ I1 (turn n σ1 H1 w1)) fun b s2 ⟨H2, I2, q2⟩ => ?_)
  cases b with
  | true =>
    obtain ⟨N, hN, q2⟩ := q2
    rw [if_pos rfl]
    refine wpAny_passesOwn hp (thn (hb pins s2 σ1 H2 _ I2 q2) fun f s3 q3 => ?_)
    cases f with
    | next =>
      obtain ⟨σ3, H3, I3, n3⟩ := q3
      obtain ⟨m', hm, w3⟩ := hN σ3 H3 n3
      exact ⟨m', hm, σ3, H3, I3, w3⟩
    | cont =>
      obtain ⟨σ3, H3, I3, n3⟩ := q3
      obtain ⟨m', hm, w3⟩ := hN σ3 H3 n3
      exact ⟨m', hm, σ3, H3, I3, w3⟩
    | brk => exact q3
    | ret v => exact q3
  | false =>
    rw [if_neg Bool.false_ne_true]
    exact wpAny_execs_nil ⟨σ1, H2, I2, q2⟩
end

structure It where
  go : Nat → Hp → Prop
  yld : Nat → Hp → V → Hp → Prop
  stop : Nat → Hp → Prop
noncomputable def FpOk (X : Cx) (pins : List (Addr × Obj)) (H : Hp) (b : Addr) : Prop :=
  H b = none ∧ b ≠ X.env.locals ∧ b ∉ X.fs ∧ (b ∈ X.ex ∨ X.s₀.heap.objs.size ≤ b) ∧ (∀ x c, X.env.cells.lookup x = some c → c ≠ b) ∧ ∀ p ∈ X.pn ++ pins, p.1 ≠ b
theorem Inv.fpOk {X : Cx} {pins : List (Addr × Obj)} {σ : St} {H H' : Hp} {s : Shared} {b : Addr} (I : Inv X pins σ H s) (hb : s.heap.objs.size ≤ b) (hn : H' b = none) : FpOk X pins H' b := by
  refine ⟨hn, Nat.ne_of_gt (Nat.lt_of_lt_of_le I.lt hb), I.nofs hb, .inr (Nat.le_trans I.sz hb), fun x c e z => ?_, fun p hp z => ?_⟩
  · obtain ⟨v, q⟩ := I.cell x c e
    exact absurd (Nat.lt_of_lt_of_le q.lt (by rw [z]; exact hb)) (Nat.lt_irrefl _)
  · exact absurd (Nat.lt_of_lt_of_le (Heap.lt_size (I.pin p hp).1) (by rw [z]; exact hb)) (Nat.lt_irrefl _)
structure Turn (P : Program) (w : World) (K : PySem.W.Frag) (tg : Expr) (J : It) (fp : List Addr) (it : Addr) (tn : Nat → Heap → Prop) : Prop where
  mem : it ∈ fp
  obj : ∀ i h, tn i h → ∀ b ∈ fp, ∃ o, h.get? b = some o ∧ ∀ v, o.data ≠ .cell v
  keep : ∀ i h h', tn i h → (∀ b ∈ fp, ∀ o, h.get? b = some o → h'.get? b = some o) → tn i h'
  item : ∀ (X : Cx), X.prog = P → X.w = w → X.K = K → X.calm = true → ∀ (i : Nat) (pins : List (Addr × Obj)) (s : Shared) (σ : St) (H : Hp) (E : Value → Shared → Prop), Inv X pins σ H s → (∀ b ∈ fp, FpOk X pins H b) → tn i s.heap → J.go i H →
    wpAny (model P w) X.A (pyNext (.ref it)) (fun r s1 => ∃ u, r = some u ∧
      wpAny (model P w) X.A (letOwnedTupleGo tg (.ref it) u) (fun _ s2 => ∃ x H', Inv X pins σ H' s2 ∧ RelV x u ∧ J.yld i H x H' ∧ tn (i + 1) s2.heap ∧ ∀ b ∈ fp, H' b = none) E s1) E s
  done : ∀ (X : Cx), X.prog = P → X.w = w → X.K = K → X.calm = true → ∀ (i : Nat) (pins : List (Addr × Obj)) (s : Shared) (σ : St) (H : Hp) (E : Value → Shared → Prop), Inv X pins σ H s → (∀ b ∈ fp, FpOk X pins H b) → tn i s.heap → J.stop i H →
    wpAny (model P w) X.A (pyNext (.ref it)) (fun r s1 => r = none ∧ Inv X pins σ H s1) E s
  self : ∀ (A : Around) (i : Nat) (s : Shared) (Q : Value → Shared → Prop) (E : Value → Shared → Prop), tn i s.heap → Q (.ref it) s → wpAny (model P w) A (pyIter (.ref it)) Q E s
abbrev TI := St → Hp → (It → Hp → Prop) → Prop
noncomputable def PIE (X : Cx) (pins : List (Addr × Obj)) (σ : St) (tg : Expr) (R : It → Hp → Prop) (itv : Value) (s2 : Shared) : Prop :=
  ∃ (it : Addr) (fp : List Addr) (tn : Nat → Heap → Prop) (J : It) (H' : Hp), itv = .ref it ∧ Inv X pins σ H' s2 ∧ Turn X.prog X.w X.K tg J fp it tn ∧ tn 0 s2.heap ∧ (∀ b ∈ fp, FpOk X pins H' b) ∧ R J H'
noncomputable def PI (X : Cx) (tg iter : Expr) (wi : TI) : Prop :=
  ∀ (pins : List (Addr × Obj)) (s : Shared) (σ : St) (H : Hp) (R : It → Hp → Prop), Inv X pins σ H s → wi σ H R →
    wpAny (model X.prog X.w) X.A (eval iter X.env) (fun v s1 => wpAny (model X.prog X.w) X.A (pyIter v) (PIE X pins σ tg R) X.xe s1) X.xe s

theorem go_of {M : Model} {A : Around} {E : Value → Shared → Prop} {s : Shared} {tg : Expr} {it : Addr} {u : Value} {o : Obj} {n : String} {vs : Array Value} {Q : Unit → Shared → Prop} (ho : s.heap.get? it = some o) (hc : o.cls = .type n) (hd : o.data = .fields vs)
    (hn : ["enumerate", "zip", "dict_itemiterator", "dict_reverseitemiterator", "odict_iterator", "itertools.zip_longest", "itertools.pairwise"].contains n = false) (hQ : Q () s) : wpAny M A (letOwnedTupleGo tg (.ref it) u) Q E s := by
  unfold letOwnedTupleGo
  cases tg <;> first
    | exact wpAny_pure hQ
    | (cases u <;> first
        | exact wpAny_pure hQ
        | (refine wpAny_bind (wpAny_load ho ?_)
           rw [hc, hd]
           show wpAny M A (if (["enumerate", "zip", "dict_itemiterator", "dict_reverseitemiterator", "odict_iterator", "itertools.zip_longest", "itertools.pairwise"].contains n && vs[0]? == some (rawInt _)) = true then _ else _) Q E s
           rw [if_neg (by intro h; rw [hn, Bool.false_and] at h; cases h)]
           exact wpAny_pure hQ))

noncomputable def Itl (K : PySem.W.Frag) (a : Addr) : It :=
  ⟨fun i H => ∃ xs x, SqL K H a xs ∧ xs[i]? = some x, fun i H x H' => H' = H ∧ ∀ xs, SqL K H a xs → xs[i]? = some x, fun i H => ∃ xs, SqL K H a xs ∧ xs.length ≤ i⟩
noncomputable def Itt (K : PySem.W.Frag) (a : Addr) : It :=
  ⟨fun i H => ∃ xs x, SqT K H a xs ∧ xs[i]? = some x, fun i H x H' => H' = H ∧ ∀ xs, SqT K H a xs → xs[i]? = some x, fun i H => ∃ xs, SqT K H a xs ∧ xs.length ≤ i⟩
noncomputable def Itr (lo : Int) (n : Nat) : It := ⟨fun i _ => i < n, fun i H x H' => H' = H ∧ x = .int (lo + i), fun i _ => n ≤ i⟩
theorem turn_list {P : Program} {w : World} {K : PySem.W.Frag} {tg : Expr} (a it : Addr) : Turn P w K tg (Itl K a) [it] it (fun i h => h.IsListIter it a i) where
  mem := by simp
  obj := fun i h st b hb => by
    have e : b = it := by simpa using hb
    subst e
    obtain ⟨o, e, c, d⟩ := st
    exact ⟨o, e, fun v z => by rw [d] at z; cases z⟩
  keep := fun i h h' st k => st.at fun o e => k it (by simp) o e
  item := by
    intro X hP hw hK hc i pins s σ H E I hf st hg
    subst hP hw hK
    obtain ⟨xs, x, hq, hx⟩ := hg
    obtain ⟨its, rv, p, hz⟩ := I.list hq
    obtain ⟨u, hu, ru⟩ := rv.get hx
    obtain ⟨f0, f1, f2, f3, f4, f5⟩ := hf it (by simp)
    refine wpAny_pyNext_list_item st p.isList (x := u) (by simpa using hu) fun h' st' sb => ?_
    have I1 : Inv X pins σ H { s with heap := h' } := I.turned (t' := s.toks) (fun b o hb e => (sb.2 b hb).trans e) f0 f1 f3 f4 f5
    obtain ⟨o, e, c, d⟩ := id st'
    exact ⟨u, rfl, go_of (s := { s with heap := h' }) e c d (by decide) ⟨x, H, I1, ru, ⟨rfl, fun ys hy => by rw [I.list_inj hy hq]; exact hx⟩, st', fun b hb => (hf b hb).1⟩⟩
  done := by
    intro X hP hw hK hc i pins s σ H E I hf st hg
    subst hP hw hK
    obtain ⟨xs, hq, hx⟩ := hg
    obtain ⟨its, rv, p, hz⟩ := I.list hq
    obtain ⟨f0, f1, f2, f3, f4, f5⟩ := hf it (by simp)
    have hl := rv.length
    exact wpAny_pyNext_list_end (I.ok.hd hc) st p.isList (by simp; omega) fun h' eb => ⟨rfl, I.turned (t' := s.toks) (fun b o hb e => eb b o hb e) f0 f1 f3 f4 f5⟩
  self := fun _ _ _ _ _ st h => wpAny_pyIter_listiter st h
theorem turn_tuple {P : Program} {w : World} {K : PySem.W.Frag} {tg : Expr} (a it : Addr) : Turn P w K tg (Itt K a) [it] it (fun i h => h.IsTupleIter it a i) where
  mem := by simp
  obj := fun i h st b hb => by
    have e : b = it := by simpa using hb
    subst e
    obtain ⟨o, e, c, d⟩ := st
    exact ⟨o, e, fun v z => by rw [d] at z; cases z⟩
  keep := fun i h h' st k => st.at fun o e => k it (by simp) o e
  item := by
    intro X hP hw hK hc i pins s σ H E I hf st hg
    subst hP hw hK
    obtain ⟨xs, x, hq, hx⟩ := hg
    obtain ⟨its, rv, p, hz⟩ := I.tuple hq
    obtain ⟨u, hu, ru⟩ := rv.get hx
    obtain ⟨f0, f1, f2, f3, f4, f5⟩ := hf it (by simp)
    refine wpAny_pyNext_tuple_item st (show s.heap.IsTuple a its.toArray from p) (x := u) (by simpa using hu) fun h' st' sb => ?_
    have I1 : Inv X pins σ H { s with heap := h' } := I.turned (t' := s.toks) (fun b o hb e => (sb.2 b hb).trans e) f0 f1 f3 f4 f5
    obtain ⟨o, e, c, d⟩ := id st'
    exact ⟨u, rfl, go_of (s := { s with heap := h' }) e c d (by decide) ⟨x, H, I1, ru, ⟨rfl, fun ys hy => by rw [I.tuple_inj hy hq]; exact hx⟩, st', fun b hb => (hf b hb).1⟩⟩
  done := by
    intro X hP hw hK hc i pins s σ H E I hf st hg
    subst hP hw hK
    obtain ⟨xs, hq, hx⟩ := hg
    obtain ⟨its, rv, p, hz⟩ := I.tuple hq
    obtain ⟨f0, f1, f2, f3, f4, f5⟩ := hf it (by simp)
    have hl := rv.length
    exact wpAny_pyNext_tuple_end (I.ok.hd hc) st (show s.heap.IsTuple a its.toArray from p) (by simp; omega) fun h' eb => ⟨rfl, I.turned (t' := s.toks) (fun b o hb e => eb b o hb e) f0 f1 f3 f4 f5⟩
  self := fun _ _ _ _ _ st h => wpAny_pyIter_tupleiter st h
theorem turn_range {P : Program} {w : World} {K : PySem.W.Frag} {tg : Expr} (it : Addr) (lo : Int) (n : Nat) : Turn P w K tg (Itr lo n) [it] it (fun i h => IsRangeIter h it (lo + (i : Nat) * 1) ((n : Int) - (i : Nat)) 1) where
  mem := by simp
  obj := fun i h st b hb => by
    have e : b = it := by simpa using hb
    subst e
    exact ⟨_, st, fun v z => by
      have z' : Data.fields _ = Data.cell v := z
      cases z'⟩
  keep := fun i h h' st k => k it (by simp) _ st
  item := by
    intro X hP hw hK hc i pins s σ H E I hf st hg
    subst hP hw hK
    obtain ⟨f0, f1, f2, f3, f4, f5⟩ := hf it (by simp)
    have W := Walks.range (prog := X.prog) (w := X.w) (I.ok.hd hc) it lo 1 n
    refine W.item i s _ _ hg st fun v h' tk hv st' kk => ?_
    obtain ⟨t, rfl⟩ := hv
    have I1 : Inv X pins σ H { s with heap := h', toks := tk } := I.turned (fun b o hb e => kk b o (by simpa using hb) e) f0 f1 f3 f4 f5
    refine ⟨_, rfl, go_of (s := { s with heap := h', toks := tk }) (n := "range_iterator") st' rfl rfl (by decide) ⟨.int (lo + i), H, I1, ⟨t, ?_⟩, ⟨rfl, rfl⟩, st', fun b hb => (hf b hb).1⟩⟩
    rw [Int.mul_one]
  done := by
    intro X hP hw hK hc i pins s σ H E I hf st hg
    subst hP hw hK
    obtain ⟨f0, f1, f2, f3, f4, f5⟩ := hf it (by simp)
    exact wpAny_pyNext_range_end (I.ok.hd hc) st (by have : n ≤ i := hg; omega) fun h' eb => ⟨rfl, I.turned (t' := s.toks) (fun b o hb e => eb b o hb e) f0 f1 f3 f4 f5⟩
  self := fun _ _ _ _ _ st h => wpAny_pyIter_rangeiter st h
end L2

namespace L2
open PySem PySem.Spec PyProof.Rows
section
variable {X : Cx} {tg : Expr}
noncomputable def iList (K : PySem.W.Frag) (tl : TE) : TI := fun σ H R => tl σ H fun x H1 => ∃ a, x = .ref a ∧ (∃ xs, SqL K H1 a xs) ∧ R (Itl K a) H1
noncomputable def iTup (K : PySem.W.Frag) (tl : TE) : TI := fun σ H R => tl σ H fun x H1 => ∃ a, x = .ref a ∧ (∃ xs, SqT K H1 a xs) ∧ R (Itt K a) H1
theorem pi_list {l : Expr} {tl : TE} (hl : PE X l tl) : PI X tg l (iList X.K tl) := by
  intro pins s σ H R I h
  refine thn (hl pins s σ H _ I h) fun v s1 ⟨x, H1, I1, r1, q1⟩ => ?_
  obtain ⟨a, e, ⟨xs, hq⟩, q⟩ := q1
  subst e
  cases r1
  obtain ⟨its, rv, p, hz⟩ := I1.list hq
  refine wpAny_pyIter_list p.isList ?_
  refine ⟨s1.heap.objs.size, [s1.heap.objs.size], _, _, H1, rfl, I1.kept (t' := s1.toks) fun b o e => Heap.get?_push_of_some _ e, turn_list a _, ⟨_, Heap.get?_push_size _ rfl, rfl, rfl⟩, fun b hb => ?_, q⟩
  have e : b = s1.heap.objs.size := by simpa using hb
  subst e
  exact I1.fpOk (Nat.le_refl _) (I1.hok.fresh (Nat.le_refl _))
theorem pi_tup {l : Expr} {tl : TE} (hl : PE X l tl) : PI X tg l (iTup X.K tl) := by
  intro pins s σ H R I h
  refine thn (hl pins s σ H _ I h) fun v s1 ⟨x, H1, I1, r1, q1⟩ => ?_
  obtain ⟨a, e, ⟨xs, hq⟩, q⟩ := q1
  subst e
  cases r1
  obtain ⟨its, rv, p, hz⟩ := I1.tuple hq
  refine wpAny_pyIter_tuple (show s1.heap.IsTuple a its.toArray from p) ?_
  refine ⟨s1.heap.objs.size, [s1.heap.objs.size], _, _, H1, rfl, I1.kept (t' := s1.toks) fun b o e => Heap.get?_push_of_some _ e, turn_tuple a _, ⟨_, Heap.get?_push_size _ rfl, rfl, rfl⟩, fun b hb => ?_, q⟩
  have e : b = s1.heap.objs.size := by simpa using hb
  subst e
  exact I1.fpOk (Nat.le_refl _) (I1.hok.fresh (Nat.le_refl _))
theorem range_it {pins : List (Addr × Obj)} {σ : St} {H : Hp} {s : Shared} {R : It → Hp → Prop} {E : Value → Shared → Prop} {lo hi : Int} {t u v : Tok} {tk : Nat} (I : Inv X pins σ H s) (h1 : -(2 ^ 62) ≤ lo) (h2 : lo < 2 ^ 62) (h3 : -(2 ^ 62) ≤ hi) (h4 : hi < 2 ^ 62)
    (q : R (Itr lo (hi - lo).toNat) H) : wpAny (model X.prog X.w) X.A (pyIter (.ref s.heap.objs.size)) (PIE X pins σ tg R) E { s with heap := s.heap.push { cls := .type "range", data := .fields #[.int lo t, .int hi u, .int 1 v] }, toks := tk } := by
  refine wpAny_pyIter_range (IsRange.new ..) (small_one h1 h2 h3 h4) ?_
  have I1 : Inv X pins σ H { s with heap := s.heap.push { cls := .type "range", data := .fields #[.int lo t, .int hi u, .int 1 v] }, toks := tk } := I.kept fun b o e => Heap.get?_push_of_some _ e
  refine ⟨(s.heap.push { cls := .type "range", data := .fields #[.int lo t, .int hi u, .int 1 v] }).objs.size, [(s.heap.push { cls := .type "range", data := .fields #[.int lo t, .int hi u, .int 1 v] }).objs.size], _, _, H, rfl,
    I1.kept (t' := tk) fun b o e => Heap.get?_push_of_some _ e, turn_range _ lo (hi - lo).toNat, ?_, fun b hb => ?_, q⟩
  · have e1 : lo + ((0 : Nat) : Int) * 1 = lo := by simp
    have e2 : (((hi - lo).toNat : Nat) : Int) - ((0 : Nat) : Int) = Builtin.Range.rangeSize lo hi 1 := by rw [rangeSize_one]; split <;> omega
    show IsRangeIter _ _ (lo + ((0 : Nat) : Int) * 1) ((((hi - lo).toNat : Nat) : Int) - ((0 : Nat) : Int)) 1
    rw [e1, e2]
    exact Heap.get?_push_size _ rfl
  · have e : b = (s.heap.push { cls := .type "range", data := .fields #[.int lo t, .int hi u, .int 1 v] }).objs.size := by simpa using hb
    subst e
    exact I1.fpOk (Nat.le_refl _) (I1.hok.fresh (Nat.le_refl _))
noncomputable def iRng1 (ta : TA) : TI := fun σ H R => ta σ H fun vs H1 => ∃ j : Int, vs = [.int j] ∧ -(2 ^ 62) ≤ j ∧ j < 2 ^ 62 ∧ R (Itr 0 j.toNat) H1
theorem pi_range1 {a : Expr} {ta : TA} {p pos : Pos} (hg : Gl X "range") (hm : X.mg "range" = none) (ha : PA X [a] ta) (hs : starEach [a] X.env = [(false, eval a X.env)] := by rfl) : PI X tg (.Call (.Name "range" p) [a] [] pos) (iRng1 ta) := by
  intro pins s σ H R I h
  refine Call_ (ld_blt I hg hm boot_range (PyProof.Rows.callWith_type1 (thn (ha pos pins s σ H _ I h) fun us s1 ⟨vs, H1, I1, r1, q1⟩ => ?_) hs rfl))
  obtain ⟨j, e, q1, q2, q⟩ := q1
  subst e
  cases r1 with
  | cons r rr =>
    cases rr
    obtain ⟨t, rfl⟩ := r
    exact call_range_1 (range_it I1 (by omega) (by omega) q1 q2 (by simpa using q))

noncomputable def tFor (wi : TI) (g : TG) (tb : TS) : TS := fun D σ H => wi σ H fun J H1 => ∃ W : Nat → Nat → St → Hp → Prop, (∃ m, W 0 m σ H1) ∧ ∀ i m σ H, W i m σ H →
  (J.stop i H ∧ D.nx σ H) ∨ (J.go i H ∧ ∃ N : St → Hp → Prop, (∀ σ' H', N σ' H' → ∃ m', m' < m ∧ W (i + 1) m' σ' H') ∧ ∀ x H', J.yld i H x H' → g x σ H' fun σ2 H2 => tb { D with nx := N, ct := N, bk := D.nx } σ2 H2)
noncomputable def pinsAt (fp : List Addr) (h : Heap) : List (Addr × Obj) := fp.filterMap fun b => (h.get? b).map fun o => (b, o)
theorem mem_pinsAt {fp : List Addr} {h : Heap} {b : Addr} {o : Obj} (hb : b ∈ fp) (e : h.get? b = some o) : (b, o) ∈ pinsAt fp h := List.mem_filterMap.mpr ⟨b, hb, by rw [e]; rfl⟩
theorem of_pinsAt {fp : List Addr} {h : Heap} {p : Addr × Obj} (hp : p ∈ pinsAt fp h) : p.1 ∈ fp ∧ h.get? p.1 = some p.2 := by
  obtain ⟨b, hb, e⟩ := List.mem_filterMap.mp hp
  cases q : h.get? b with
  | none => rw [q] at e; cases e
  | some o =>
    rw [q] at e
    have e' : (b, o) = p := Option.some.inj e
    subst e'
    exact ⟨hb, q⟩
theorem Inv.pinned {pins : List (Addr × Obj)} {σ : St} {H : Hp} {s : Shared} {fp : List Addr} (I : Inv X pins σ H s) (hf : ∀ b ∈ fp, FpOk X pins H b) (ho : ∀ b ∈ fp, ∃ o, s.heap.get? b = some o ∧ ∀ v, o.data ≠ .cell v) : Inv X (pins ++ pinsAt fp s.heap) σ H s :=
  I.pins_of fun p hp => (List.mem_append.mp hp).elim (fun z => I.pin p (List.mem_append_right _ z)) fun z => by
    obtain ⟨hb, e⟩ := of_pinsAt z
    obtain ⟨f0, f1, f2, _⟩ := hf p.1 hb
    obtain ⟨o, e', d⟩ := ho p.1 hb
    rw [e] at e'; cases e'
    exact ⟨e, f0, f1, f2, d⟩
theorem Inv.unpinned {pins pl : List (Addr × Obj)} {σ : St} {H : Hp} {s : Shared} (I : Inv X (pins ++ pl) σ H s) : Inv X pins σ H s := I.pins_of fun p hp => I.pin p (List.mem_append_right _ (List.mem_append_left _ hp))
theorem ps_for {iter : Expr} {body : List Stmt} {wi : TI} {g : TG} {tb : TS} {pos : Pos} (hp : PassesOwn (model X.prog X.w) X.A X.env X.xe) (hc : X.calm = true) (hi : PI X tg iter wi) (hg : PG X tg g) (hb : PSs X body tb)
    (hs : ∀ x, foldedSetIterable iter X.env x = pure x := by intro _; rfl) : PS X (.For tg iter body [] pos) (tFor wi g tb) := by
  intro pins s σ H D I h
  refine wpAny_For (thn (hi pins s σ H _ I h) fun v s1 h1 => thn h1 fun itv s2 h2 => ?_) hs
  obtain ⟨it, fp, tn, J, H2, e, I2, T, st2, f2, W, ⟨m0, w0⟩, turn⟩ := h2
  subst e
  -- what stays true of the iterator's objects through the loop
  have stat : ∀ {H' : Hp}, (∀ b ∈ fp, H' b = none) → ∀ b ∈ fp, FpOk X pins H' b := fun hn b hb => ⟨hn b hb, (f2 b hb).2⟩
  refine codeAny_forLoop_any (fun n s' => ∃ i σ' H', Inv X pins σ' H' s' ∧ tn i s'.heap ∧ (∀ b ∈ fp, H' b = none) ∧ W i n σ' H') ?_ m0 ⟨0, σ, H2, I2, st2, fun b hb => (f2 b hb).1, w0⟩
  rintro n s3 ⟨i, σ3, H3, I3, st3, fr3, w3⟩
  rcases turn i n σ3 H3 w3 with ⟨stop, qn⟩ | ⟨go, N, hN, step⟩
  · refine wpAny_passesOwn hp (thn (T.done X rfl rfl rfl hc i pins s3 σ3 H3 X.xe I3 (stat fr3) st3 stop) fun r s4 ⟨hr, I4⟩ => ?_)
    subst hr
    exact wpAny_execs_nil ⟨σ3, H3, I4, qn⟩
  · refine wpAny_passesOwn hp (thn (T.item X rfl rfl rfl hc i pins s3 σ3 H3 X.xe I3 (stat fr3) st3 go) fun r s4 ⟨u, hr, h4⟩ => ?_)
    subst hr
    refine wpAny_passesOwn hp (thn h4 fun _ s5 ⟨x, H5, I5, r5, y5, st5, fr5⟩ => ?_)
    have I5' := I5.pinned (stat fr5) (T.obj _ _ st5)
    refine wpAny_passesOwn hp (thn (hg _ s5 σ3 H5 x u _ I5' r5 (step x H5 y5)) fun _ s6 ⟨σ6, H6, I6, q6⟩ => ?_)
    refine wpAny_passesOwn hp (thn (hb _ s6 σ6 H6 _ I6 q6) fun f s7 q7 => ?_)
    have again : ∀ {σ7 : St} {H7 : Hp}, Inv X (pins ++ pinsAt fp s5.heap) σ7 H7 s7 → N σ7 H7 → ∃ m, m < n ∧ ∃ i σ' H', Inv X pins σ' H' s7 ∧ tn i s7.heap ∧ (∀ b ∈ fp, H' b = none) ∧ W i m σ' H' := fun {σ7 H7} I7 n7 => by
      obtain ⟨m', hm, w7⟩ := hN σ7 H7 n7
      refine ⟨m', hm, i + 1, σ7, H7, I7.unpinned, T.keep _ _ _ st5 fun b hb o e => (I7.pin (b, o) (List.mem_append_right _ (List.mem_append_right _ (mem_pinsAt hb e)))).1, fun b hb => ?_, w7⟩
      obtain ⟨o, e, d⟩ := T.obj _ _ st5 b hb
      exact (I7.pin (b, o) (List.mem_append_right _ (List.mem_append_right _ (mem_pinsAt hb e)))).2.1
    cases f with
    | next => obtain ⟨σ7, H7, I7, n7⟩ := q7; exact again I7 n7
    | cont => obtain ⟨σ7, H7, I7, n7⟩ := q7; exact again I7 n7
    | brk => obtain ⟨σ7, H7, I7, q7⟩ := q7; exact ⟨σ7, H7, I7.unpinned, q7⟩
    | ret v => obtain ⟨x7, σ7, H7, I7, r7, q7⟩ := q7; exact ⟨x7, σ7, H7, I7.unpinned, r7, q7⟩
end

theorem for_list {K : PySem.W.Frag} {a : Addr} {xs : List V} {g : TG} {tb : TS} {D : Ends} {σ : St} {H : Hp} (Pv : Nat → St → Hp → Prop) (h0 : Pv 0 σ H) (hl : ∀ i σ H, i ≤ xs.length → Pv i σ H → SqL K H a xs)
    (hs : ∀ i x σ H, xs[i]? = some x → Pv i σ H → g x σ H fun σ2 H2 => tb { D with nx := Pv (i + 1), ct := Pv (i + 1), bk := D.nx } σ2 H2) (hd : ∀ σ H, Pv xs.length σ H → D.nx σ H) :
    ∃ W : Nat → Nat → St → Hp → Prop, (∃ m, W 0 m σ H) ∧ ∀ i m σ H, W i m σ H →
      ((Itl K a).stop i H ∧ D.nx σ H) ∨ ((Itl K a).go i H ∧ ∃ N : St → Hp → Prop, (∀ σ' H', N σ' H' → ∃ m', m' < m ∧ W (i + 1) m' σ' H') ∧ ∀ x H', (Itl K a).yld i H x H' → g x σ H' fun σ2 H2 => tb { D with nx := N, ct := N, bk := D.nx } σ2 H2) := by
  refine ⟨fun i m σ H => m = xs.length - i ∧ i ≤ xs.length ∧ Pv i σ H, ⟨xs.length, by simp, Nat.zero_le _, h0⟩, ?_⟩
  rintro i m σ H ⟨rfl, hi, p⟩
  have q := hl i σ H hi p
  by_cases hlt : i < xs.length
  · refine .inr ⟨⟨xs, xs[i], q, by simp [hlt]⟩, Pv (i + 1), fun σ' H' p' => ⟨xs.length - (i + 1), by omega, rfl, hlt, p'⟩, fun x H' y => ?_⟩
    obtain ⟨e, y⟩ := y
    subst e
    exact hs i x σ _ (y xs q) p
  · have e : i = xs.length := by omega
    subst e
    exact .inl ⟨⟨xs, q, Nat.le_refl _⟩, hd σ H p⟩
theorem for_range {lo : Int} {n : Nat} {g : TG} {tb : TS} {D : Ends} {σ : St} {H : Hp} (Pv : Nat → St → Hp → Prop) (h0 : Pv 0 σ H)
    (hs : ∀ i σ H, i < n → Pv i σ H → g (.int (lo + i)) σ H fun σ2 H2 => tb { D with nx := Pv (i + 1), ct := Pv (i + 1), bk := D.nx } σ2 H2) (hd : ∀ σ H, Pv n σ H → D.nx σ H) :
    ∃ W : Nat → Nat → St → Hp → Prop, (∃ m, W 0 m σ H) ∧ ∀ i m σ H, W i m σ H →
      ((Itr lo n).stop i H ∧ D.nx σ H) ∨ ((Itr lo n).go i H ∧ ∃ N : St → Hp → Prop, (∀ σ' H', N σ' H' → ∃ m', m' < m ∧ W (i + 1) m' σ' H') ∧ ∀ x H', (Itr lo n).yld i H x H' → g x σ H' fun σ2 H2 => tb { D with nx := N, ct := N, bk := D.nx } σ2 H2) := by
  refine ⟨fun i m σ H => m = n - i ∧ i ≤ n ∧ Pv i σ H, ⟨n, by simp, Nat.zero_le _, h0⟩, ?_⟩
  rintro i m σ H ⟨rfl, hi, p⟩
  by_cases hlt : i < n
  · refine .inr ⟨hlt, Pv (i + 1), fun σ' H' p' => ⟨n - (i + 1), by omega, rfl, hlt, p'⟩, fun x H' y => ?_⟩
    obtain ⟨e, y⟩ := y
    subst e y
    exact hs i σ _ hlt p
  · have e : i = n := by omega
    subst e
    exact .inl ⟨Nat.le_refl _, hd σ H p⟩
end L2

namespace L2
open PySem PySem.Spec PyProof.Rows

abbrev R2 := V → V → Hp → VK → Prop
noncomputable def OpR (X : Cx) (f : Value → Value → Sem Value) (r : R2) : Prop :=
  ∀ (pins : List (Addr × Obj)) (s : Shared) (σ : St) (H : Hp) (x y : V) (v u : Value) (Q : VK), Inv X pins σ H s → RelV x v → RelV y u → r x y H Q →
    wpAny (model X.prog X.w) X.A (f v u) (EP X pins σ Q) X.xe s
noncomputable def UnR (X : Cx) (f : Value → Sem Value) (r : V → Hp → VK → Prop) : Prop :=
  ∀ (pins : List (Addr × Obj)) (s : Shared) (σ : St) (H : Hp) (x : V) (v : Value) (Q : VK), Inv X pins σ H s → RelV x v → r x H Q →
    wpAny (model X.prog X.w) X.A (f v) (EP X pins σ Q) X.xe s
noncomputable def CallR (X : Cx) (f : Value) (r : List V → Hp → VK → Prop) : Prop :=
  ∀ (pins : List (Addr × Obj)) (s : Shared) (σ : St) (H : Hp) (xs : List V) (us : List Value) (Q : VK), Inv X pins σ H s → Vals xs us → r xs H Q →
    wpAny (model X.prog X.w) X.A (call f us) (EP X pins σ Q) X.xe s

noncomputable def tOp (r : R2) (ta tb : TE) : TE := fun σ H Q => ta σ H fun x H1 => tb σ H1 fun y H2 => r x y H2 Q
noncomputable def tUn (r : V → Hp → VK → Prop) (ta : TE) : TE := fun σ H Q => ta σ H fun x H1 => r x H1 Q
noncomputable def rI (C : Int → Int → Prop) (g : Int → Int → V) : R2 := fun x y H Q => ∃ i j, x = .int i ∧ y = .int j ∧ C i j ∧ Q (g i j) H
noncomputable def rI0 (g : Int → Int → V) : R2 := fun x y H Q => ∃ i j, x = .int i ∧ y = .int j ∧ Q (g i j) H
noncomputable def rU (g : Int → V) : V → Hp → VK → Prop := fun x H Q => ∃ i, x = .int i ∧ Q (g i) H

section
variable {X : Cx} {a b c : Expr} {ta tb tc : TE} {pos : Pos}

theorem binT (ha : PE X a ta) (hb : PE X b tb) {pins : List (Addr × Obj)} {s : Shared} {σ : St} {H : Hp} {R : V → V → Hp → Prop} (I : Inv X pins σ H s)
    (h : ta σ H fun x H1 => tb σ H1 fun y H2 => R x y H2) {Q : Value → Shared → Prop} {f : Value → Value → Sem Value}
    (hf : ∀ v u s2 x y H2, Inv X pins σ H2 s2 → RelV x v → RelV y u → R x y H2 → wpAny (model X.prog X.w) X.A (f v u) Q X.xe s2) :
    wpAny (model X.prog X.w) X.A (eval a X.env) (fun v s₁ => wpAny (model X.prog X.w) X.A (eval b X.env) (fun u s₂ => wpAny (model X.prog X.w) X.A (f v u) Q X.xe s₂) X.xe s₁) X.xe s := by
  refine thn (ha pins s σ H _ I h) fun v s1 ⟨x, H1, I1, r1, q1⟩ => ?_
  refine thn (hb pins s1 σ H1 _ I1 q1) fun u s2 ⟨y, H2, I2, r2, q2⟩ => ?_
  exact hf v u s2 x y H2 I2 r1 r2 q2

theorem pe_op {op : Operator} {r : R2} (ho : OpR X (binaryOp op) r) (ha : PE X a ta) (hb : PE X b tb) : PE X (.BinOp a op b pos) (tOp r ta tb) := by
  intro pins s σ H Q I h
  exact wpAny_BinOp (binT ha hb I h fun v u s2 x y H2 I2 rx ry q => ho pins s2 σ H2 x y v u Q I2 rx ry q)
theorem pe_un {op : UnaryOp} {r : V → Hp → VK → Prop} (ho : UnR X (unaryOp op) r) (ha : PE X a ta) : PE X (.UnaryOp op a pos) (tUn r ta) := by
  intro pins s σ H Q I h
  exact UnaryOp_ (thn (ha pins s σ H _ I h) fun v s1 ⟨x, H1, I1, r1, q1⟩ => ho pins s1 σ H1 x v Q I1 r1 q1)

theorem opI {f : Value → Value → Sem Value} {C : Int → Int → Prop} {g : Int → Int → Int}
    (rule : ∀ (i j : Int) (t u : Tok) (s : Shared) (Q : Value → Shared → Prop) (E : Value → Shared → Prop), C i j → Q (.int (g i j) s.toks) { s with toks := s.toks + 1 } → wpAny (model X.prog X.w) X.A (f (.int i t) (.int j u)) Q E s) :
    OpR X f (rI C fun i j => .int (g i j)) := by
  intro pins s σ H x y v u Q I rx ry h
  obtain ⟨i, j, rfl, rfl, hc, q⟩ := h
  obtain ⟨t, rfl⟩ := rx
  obtain ⟨t', rfl⟩ := ry
  exact rule i j t t' s _ _ hc ⟨.int (g i j), H, I.tok _, ⟨_, rfl⟩, q⟩
theorem opI0 {f : Value → Value → Sem Value} {g : Int → Int → Int}
    (rule : ∀ (i j : Int) (t u : Tok) (s : Shared) (Q : Value → Shared → Prop) (E : Value → Shared → Prop), Q (.int (g i j) s.toks) { s with toks := s.toks + 1 } → wpAny (model X.prog X.w) X.A (f (.int i t) (.int j u)) Q E s) :
    OpR X f (rI0 fun i j => .int (g i j)) := by
  intro pins s σ H x y v u Q I rx ry h
  obtain ⟨i, j, rfl, rfl, q⟩ := h
  obtain ⟨t, rfl⟩ := rx
  obtain ⟨t', rfl⟩ := ry
  exact rule i j t t' s _ _ ⟨.int (g i j), H, I.tok _, ⟨_, rfl⟩, q⟩
theorem opB0 {f : Value → Value → Sem Value} {g : Int → Int → Bool}
    (rule : ∀ (i j : Int) (t u : Tok) (s : Shared) (Q : Value → Shared → Prop) (E : Value → Shared → Prop), Q (.bool (g i j)) s → wpAny (model X.prog X.w) X.A (f (.int i t) (.int j u)) Q E s) :
    OpR X f (rI0 fun i j => .bl (g i j)) := by
  intro pins s σ H x y v u Q I rx ry h
  obtain ⟨i, j, rfl, rfl, q⟩ := h
  obtain ⟨t, rfl⟩ := rx
  obtain ⟨t', rfl⟩ := ry
  exact rule i j t t' s _ _ ⟨.bl (g i j), H, I, rfl, q⟩

noncomputable def CDiv (i j : Int) : Prop := 0 < j ∧ j < 1073741824
noncomputable def CPow (i j : Int) : Prop := 0 ≤ j ∧ j ≤ 1000000 ∧ i.natAbs < 2 ^ 64
noncomputable def CMul (i j : Int) : Prop := (-(2 ^ 64) < i ∧ i < 2 ^ 64) ∨ (-(2 ^ 64) < j ∧ j < 2 ^ 64)
theorem CMul.ok {i j : Int} (h : CMul i j) : IntMulOk i j := by
  rcases h with ⟨h1, h2⟩ | ⟨h1, h2⟩
  · exact .of_left (intBits_le_64 h1 h2)
  · exact .of_right (intBits_le_64 h1 h2)

theorem op_add : OpR X (binaryOp .Add) (rI0 fun i j => .int (i + j)) := opI0 fun _ _ _ _ _ _ _ q => add_int q
theorem op_sub : OpR X (binaryOp .Sub) (rI0 fun i j => .int (i - j)) := opI0 fun _ _ _ _ _ _ _ q => sub_int q
theorem op_mul : OpR X (binaryOp .Mult) (rI CMul fun i j => .int (i * j)) := opI fun _ _ _ _ _ _ _ hc q => mul_int q hc.ok
theorem op_fdiv : OpR X (binaryOp .FloorDiv) (rI CDiv fun i j => .int (i / j)) := opI fun i j _ _ _ _ _ hc q => by
  have h1 : (0 : Int) < j := hc.1
  have h2 : j < 1073741824 := hc.2
  exact floordiv_int (by omega) (by rw [Int.fdiv_eq_ediv_of_nonneg i (by omega)]; exact q) (.inl (PyProof.noPylong_small (by omega)))
theorem op_mod : OpR X (binaryOp .Mod) (rI (fun _ j => 0 < j) fun i j => .int (i % j)) := opI fun i j _ _ _ _ _ hc q => by
  have h1 : (0 : Int) < j := hc
  exact mod_int' (by omega) (by rw [Int.fmod_eq_emod_of_nonneg i (by omega)]; exact q)
theorem op_pow : OpR X (binaryOp .Pow) (rI CPow fun i j => .int (i ^ j.toNat)) := opI fun _ _ _ _ _ _ _ hc q => pow_int_small hc.1 hc.2.1 hc.2.2 q


theorem unI {f : Value → Sem Value} {g : Int → Int}
    (rule : ∀ (i : Int) (t : Tok) (s : Shared) (Q : Value → Shared → Prop) (E : Value → Shared → Prop), Q (.int (g i) s.toks) { s with toks := s.toks + 1 } → wpAny (model X.prog X.w) X.A (f (.int i t)) Q E s) :
    UnR X f (rU fun i => .int (g i)) := by
  intro pins s σ H x v Q I rx h
  obtain ⟨i, rfl, q⟩ := h
  obtain ⟨t, rfl⟩ := rx
  exact rule i t s _ _ ⟨.int (g i), H, I.tok _, ⟨_, rfl⟩, q⟩
theorem un_neg : UnR X (unaryOp .USub) (rU fun i => .int (-i)) := unI fun _ _ _ _ _ q => neg_int q

end

noncomputable def scal : V → V → Bool
  | .non, .non => true | .non, .int _ => true | .int _, .non => true | .non, .bl _ => true | .bl _, .non => true | .non, .str _ => true | .str _, .non => true
  | .int _, .int _ => true | .bl _, .bl _ => true | .str _, .str _ => true | .byt _, .byt _ => true
  | .int _, .str _ => true | .str _, .int _ => true | .bl _, .str _ => true | .str _, .bl _ => true
  | _, _ => false
noncomputable def rEq : R2 := fun x y H Q => scal x y = true ∧ Q (.bl (decide (x = y))) H
noncomputable def rNe : R2 := fun x y H Q => scal x y = true ∧ Q (.bl (!decide (x = y))) H

theorem dec_int {i j : Int} : decide (V.int i = V.int j) = (i == j) := by
  rw [Bool.eq_iff_iff]
  simp
theorem dec_bl {i j : Bool} : decide (V.bl i = V.bl j) = (i == j) := by
  rw [Bool.eq_iff_iff]
  simp
theorem dec_str {i j : Str} : decide (V.str i = V.str j) = (i == j) := by
  rw [Bool.eq_iff_iff]
  simp
theorem dec_byt {i j : Array UInt8} : decide (V.byt i = V.byt j) = (i.toList == j.toList) := by
  rw [Bool.eq_iff_iff]
  cases i
  cases j
  simp

section
variable {X : Cx} {a b c : Expr} {ta tb tc : TE} {pos : Pos}
theorem fin_bl {pins : List (Addr × Obj)} {σ : St} {H : Hp} {s : Shared} {Q : VK} {k k' : Bool} (I : Inv X pins σ H s) (q : Q (.bl k) H) (e : k = k') : EP X pins σ Q (.bool k') s := by
  subst e
  exact ⟨.bl k, H, I, rfl, q⟩
theorem op_eq : OpR X (compareOp .Eq) rEq := by
  intro pins s σ H x y v u Q I rx ry h
  obtain ⟨hs, q⟩ := h
  cases x with
  | non =>
    cases rx
    cases y with
    | non => cases ry; exact PySem.EqNone.eq_none_none (fin_bl I q (by simp))
    | bl j => cases ry; exact PySem.EqNone.eq_none_bool (fin_bl I q (by simp))
    | int j => obtain ⟨t', rfl⟩ := ry; exact PySem.EqNone.eq_none_int (fin_bl I q (by simp))
    | str j => obtain ⟨t', rfl⟩ := ry; exact PySem.EqNone.eq_none_str (fin_bl I q (by simp))
    | _ => exact absurd (show false = true from hs) Bool.false_ne_true
  | bl i =>
    cases rx
    cases y with
    | non => cases ry; exact PySem.EqNone.eq_bool_none (fin_bl I q (by simp))
    | bl j => cases ry; exact eq_bool (fin_bl I q dec_bl)
    | str j => obtain ⟨t', rfl⟩ := ry; exact PySem.EqMixed.eq_bool_str (fin_bl I q (by simp))
    | _ => exact absurd (show false = true from hs) Bool.false_ne_true
  | int i =>
    obtain ⟨t, rfl⟩ := rx
    cases y with
    | non => cases ry; exact PySem.EqNone.eq_int_none (fin_bl I q (by simp))
    | int j => obtain ⟨t', rfl⟩ := ry; exact eq_int (fin_bl I q dec_int)
    | str j => obtain ⟨t', rfl⟩ := ry; exact PySem.EqMixed.eq_int_str (fin_bl I q (by simp))
    | _ => exact absurd (show false = true from hs) Bool.false_ne_true
  | str i =>
    obtain ⟨t, rfl⟩ := rx
    cases y with
    | non => cases ry; exact PySem.EqNone.eq_str_none (fin_bl I q (by simp))
    | bl j => cases ry; exact PySem.EqMixed.eq_str_bool (fin_bl I q (by simp))
    | int j => obtain ⟨t', rfl⟩ := ry; exact PySem.EqMixed.eq_str_int (fin_bl I q (by simp))
    | str j => obtain ⟨t', rfl⟩ := ry; exact eq_str (fin_bl I q dec_str)
    | _ => exact absurd (show false = true from hs) Bool.false_ne_true
  | byt i =>
    obtain ⟨t, rfl⟩ := rx
    cases y with
    | byt j => obtain ⟨t', rfl⟩ := ry; exact PySem.W.eq_bytes (fin_bl I q dec_byt)
    | _ => exact absurd (show false = true from hs) Bool.false_ne_true
  | _ => cases y <;> exact absurd (show false = true from hs) Bool.false_ne_true
theorem op_ne : OpR X (compareOp .NotEq) rNe := by
  intro pins s σ H x y v u Q I rx ry h
  obtain ⟨hs, q⟩ := h
  cases x with
  | non =>
    cases rx
    cases y with
    | non => cases ry; exact PySem.EqNone.ne_none_none (fin_bl I q (by simp))
    | bl j => cases ry; exact PySem.EqNone.ne_none_bool (fin_bl I q (by simp))
    | int j => obtain ⟨t', rfl⟩ := ry; exact PySem.EqNone.ne_none_int (fin_bl I q (by simp))
    | str j => obtain ⟨t', rfl⟩ := ry; exact PySem.EqNone.ne_none_str (fin_bl I q (by simp))
    | _ => exact absurd (show false = true from hs) Bool.false_ne_true
  | bl i =>
    cases rx
    cases y with
    | non => cases ry; exact PySem.EqNone.ne_bool_none (fin_bl I q (by simp))
    | bl j => cases ry; exact ne_bool (fin_bl I q (congrArg not dec_bl))
    | str j => obtain ⟨t', rfl⟩ := ry; exact PySem.EqMixed.ne_bool_str (fin_bl I q (by simp))
    | _ => exact absurd (show false = true from hs) Bool.false_ne_true
  | int i =>
    obtain ⟨t, rfl⟩ := rx
    cases y with
    | non => cases ry; exact PySem.EqNone.ne_int_none (fin_bl I q (by simp))
    | int j => obtain ⟨t', rfl⟩ := ry; exact ne_int (fin_bl I q (congrArg not dec_int))
    | str j => obtain ⟨t', rfl⟩ := ry; exact PySem.EqMixed.ne_int_str (fin_bl I q (by simp))
    | _ => exact absurd (show false = true from hs) Bool.false_ne_true
  | str i =>
    obtain ⟨t, rfl⟩ := rx
    cases y with
    | non => cases ry; exact PySem.EqNone.ne_str_none (fin_bl I q (by simp))
    | bl j => cases ry; exact PySem.EqMixed.ne_str_bool (fin_bl I q (by simp))
    | int j => obtain ⟨t', rfl⟩ := ry; exact PySem.EqMixed.ne_str_int (fin_bl I q (by simp))
    | str j => obtain ⟨t', rfl⟩ := ry; exact ne_str (fin_bl I q (congrArg not dec_str))
    | _ => exact absurd (show false = true from hs) Bool.false_ne_true
  | byt i =>
    obtain ⟨t, rfl⟩ := rx
    cases y with
    | byt j => obtain ⟨t', rfl⟩ := ry; exact PySem.W.ne_bytes (fin_bl I q (congrArg not dec_byt))
    | _ => exact absurd (show false = true from hs) Bool.false_ne_true
  | _ => cases y <;> exact absurd (show false = true from hs) Bool.false_ne_true

theorem op_lt : OpR X (compareOp .Lt) (rI0 fun i j => .bl (decide (i < j))) := opB0 fun _ _ _ _ _ _ _ q => lt_int q
theorem op_le : OpR X (compareOp .LtE) (rI0 fun i j => .bl (decide (i ≤ j))) := opB0 fun _ _ _ _ _ _ _ q => le_int q
theorem op_gt : OpR X (compareOp .Gt) (rI0 fun i j => .bl (decide (j < i))) := opB0 fun _ _ _ _ _ _ _ q => gt_int q
theorem op_ge : OpR X (compareOp .GtE) (rI0 fun i j => .bl (decide (j ≤ i))) := opB0 fun _ _ _ _ _ _ _ q => ge_int q
theorem op_in_str : OpR X (compareOp .In) (fun x y H Q => ∃ i j, x = .str i ∧ y = .str j ∧ Q (.bl (!(Builtin.Str.occurrences j i 0 j.length 1).isEmpty)) H) := by
  intro pins s σ H x y v u Q I rx ry h
  obtain ⟨i, j, rfl, rfl, q⟩ := h
  obtain ⟨t, rfl⟩ := rx
  obtain ⟨t', rfl⟩ := ry
  exact in_str (fin_bl I q rfl)

theorem op_notN : OpR X (compareOp .IsNot) (fun x y H Q => y = .non ∧ Q (.bl (!decide (x = .non))) H) := by
  intro pins s σ H x y v u Q I rx ry h
  obtain ⟨rfl, q⟩ := h
  cases ry
  refine isnot_none_gen (fin_bl I q ?_)
  cases x <;> first
    | (cases rx; rfl)
    | (obtain ⟨t, rfl⟩ := rx; rfl)



theorem nomark (b : Expr) {op : CmpOp} (h : op ≠ .In := by decide) (h2 : op ≠ .NotIn := by decide) : behindInMarks op b = false := by
  have e1 : (op == CmpOp.In) = false := by cases op <;> first | rfl | exact absurd rfl h
  have e2 : (op == CmpOp.NotIn) = false := by cases op <;> first | rfl | exact absurd rfl h2
  cases b <;> simp [behindInMarks, e1, e2]
theorem pe_cmpR {op : CmpOp} {r : R2} (ho : OpR X (compareOp op) r) (ha : PE X a ta) (hb : PE X b tb) (hm : behindInMarks op b = false) : PE X (.Compare a [op] [b] pos) (tOp r ta tb) := by
  intro pins s σ H Q I h
  exact wpAny_Compare1 (binT ha hb I h fun v u s2 x y H2 I2 rx ry q => ho pins s2 σ H2 x y v u Q I2 rx ry q) hm
noncomputable def tTest (t : TE) : TT := fun σ H Q => t σ H fun x H' => ∃ k, x = .bl k ∧ Q k H'
theorem pt_cmpR {op : CmpOp} {r : R2} (ho : OpR X (compareOp op) r) (ha : PE X a ta) (hb : PE X b tb) (hm : behindInMarks op b = false) : PT X (.Compare a [op] [b] pos) (tTest (tOp r ta tb)) := by
  intro pins s σ H Q I h
  refine wpAny_isTrue_Compare1 (thn (ha pins s σ H _ I h) fun v s1 ⟨x, H1, I1, r1, q1⟩ => thn (hb pins s1 σ H1 _ I1 q1) fun u s2 ⟨y, H2, I2, r2, q2⟩ =>
    thn (ho pins s2 σ H2 x y v u _ I2 r1 r2 q2) fun c s3 ⟨z, H3, I3, r3, k, e, q3⟩ => ?_) hm
  subst e
  cases r3
  exact wpAny_truthy_bool ⟨H3, I3, q3⟩
noncomputable def tChain (r r' : R2) (ta tb tc : TE) : TE := fun σ H Q => ta σ H fun x H1 => tb σ H1 fun y H2 => r x y H2 fun z H3 => ∃ k, z = .bl k ∧
  (if k = true then tc σ H3 fun w' H4 => r' y w' H4 Q else Q (.bl false) H3)
theorem pt_chain {op op' : CmpOp} {r r' : R2} (ho : OpR X (compareOp op) r) (ho' : OpR X (compareOp op') r') (ha : PE X a ta) (hb : PE X b tb) (hc : PE X c tc)
    (hm : lastMarks [op, op'] [b, c] = false := by with_unfolding_all rfl) : PT X (.Compare a [op, op'] [b, c] pos) (tTest (tChain r r' ta tb tc)) := by
  intro pins s σ H Q I h
  refine isTrue_chain (thn (ha pins s σ H _ I h) fun v s1 ⟨x, H1, I1, r1, q1⟩ => test_link (thn (hb pins s1 σ H1 _ I1 q1) fun u s2 ⟨y, H2, I2, r2, q2⟩ =>
    thn (ho pins s2 σ H2 x y v u _ I2 r1 r2 q2) fun d s3 ⟨z, H3, I3, r3, k, e, q3⟩ => ?_)) hm
  subst e
  cases r3
  refine wpAny_truthy_bool ?_
  cases k with
  | false =>
    obtain ⟨k', e', q'⟩ := q3
    cases e'
    exact ite_ff ⟨H3, I3, q'⟩
  | true =>
    refine ite_tt (test_last (thn (hc pins s3 σ H3 _ I3 q3) fun w' s4 ⟨z', H4, I4, r4, q4⟩ => thn (ho' pins s4 σ H4 y z' u w' _ I4 r2 r4 q4) fun d' s5 ⟨z2, H5, I5, r5, k2, e2, q5⟩ => ?_))
    subst e2
    cases r5
    exact wpAny_truthy_bool ⟨H5, I5, q5⟩

theorem line63 : (sizeLine : Nat) < 2 ^ 63 := by rw [sizeLine_eq]; decide

theorem op_add_str : OpR X (binaryOp .Add) (fun x y H Q => ∃ i j, x = .str i ∧ y = .str j ∧ i.length + j.length ≤ sizeLine ∧ Q (.str (i ++ j)) H) := by
  intro pins s σ H x y v u Q I rx ry h
  obtain ⟨i, j, rfl, rfl, hz, q⟩ := h
  obtain ⟨t, rfl⟩ := rx
  obtain ⟨t', rfl⟩ := ry
  exact add_str (fun t' tk => ⟨.str (i ++ j), H, I.tok _, ⟨_, rfl⟩, q⟩) hz


theorem vals1 {x : V} {us : List Value} (r : Vals [x] us) : ∃ u, us = [u] ∧ RelV x u := by
  cases r with
  | cons r1 r2 => cases r2; exact ⟨_, rfl, r1⟩
theorem vals2 {x y : V} {us : List Value} (r : Vals [x, y] us) : ∃ u w', us = [u, w'] ∧ RelV x u ∧ RelV y w' := by
  cases r with
  | cons r1 r2 =>
    cases r2 with
    | cons r3 r4 => cases r4; exact ⟨_, _, rfl, r1, r3⟩
theorem call_max2 (hc : X.calm = true) : CallR X (.builtin "max") (fun xs H Q => ∃ i j, xs = [.int i, .int j] ∧ Q (.int (if j > i then j else i)) H) := by
  intro pins s σ H xs us Q I r h
  obtain ⟨i, j, rfl, q⟩ := h
  obtain ⟨u, w', rfl, ⟨t, rfl⟩, ⟨t', rfl⟩⟩ := vals2 r
  refine max_two_ints (I.ok.hd hc) fun h' tk k => ⟨_, H, I.kept k, ?_, q⟩
  by_cases hj : j > i
  · rw [if_pos hj, if_pos hj]; exact ⟨_, rfl⟩
  · rw [if_neg hj, if_neg hj]; exact ⟨_, rfl⟩
theorem call_min2 (hc : X.calm = true) : CallR X (.builtin "min") (fun xs H Q => ∃ i j, xs = [.int i, .int j] ∧ Q (.int (if j < i then j else i)) H) := by
  intro pins s σ H xs us Q I r h
  obtain ⟨i, j, rfl, q⟩ := h
  obtain ⟨u, w', rfl, ⟨t, rfl⟩, ⟨t', rfl⟩⟩ := vals2 r
  refine min_two_ints (I.ok.hd hc) fun h' tk k => ⟨_, H, I.kept k, ?_, q⟩
  by_cases hj : j < i
  · rw [if_pos hj, if_pos hj]; exact ⟨_, rfl⟩
  · rw [if_neg hj, if_neg hj]; exact ⟨_, rfl⟩
theorem call_int1 : CallR X (.type "int") (fun xs H Q => (∃ i, xs = [.int i] ∧ Q (.int i) H) ∨ ∃ k, xs = [.bl k] ∧ Q (.int (if k then 1 else 0)) H) := by
  intro pins s σ H xs us Q I r h
  rcases h with ⟨i, rfl, q⟩ | ⟨k, rfl, q⟩
  · obtain ⟨u, rfl, t, rfl⟩ := vals1 r
    exact call_int_int ⟨.int i, H, I, ⟨_, rfl⟩, q⟩
  · obtain ⟨u, rfl, r1⟩ := vals1 r
    cases r1
    exact call_int_bool ⟨.int (if k then 1 else 0), H, I.tok _, ⟨_, rfl⟩, q⟩
end
end L2

namespace L2
open PySem PySem.Spec PyProof.Rows

structure ObjM (h : Heap) (x dx C : Addr) (mA : Str → Option Value) : Prop where
  obj : h.get? x = some (PySem.W.instObj C dx)
  ns : h.Ns1 dx mA
  ne : dx ≠ x

theorem lookIn_ns {h : Heap} {dx : Addr} {mA : Str → Option Value} (n : h.Ns1 dx mA) : ∃ od, h.get? dx = some od ∧ ∀ name, PySem.W.lookIn name od = some (mA name) := by
  obtain ⟨o, es, ep, ho, hd, hk, _, hm⟩ := n
  refine ⟨o, ho, fun name => ?_⟩
  have e := hm name
  unfold nsFind findBy at e
  rw [← Array.find?_toList] at e
  unfold PySem.W.lookIn
  rw [hd]
  dsimp only
  split
  · rename_i y q
    rw [q] at e
    exact congrArg some e
  · rename_i q
    rw [q] at e
    have a : es.toList.any (·.refKey) = false := by
      rw [List.any_eq_false]
      intro y hy
      obtain ⟨z, t, hkey⟩ := hk y (Array.mem_toList_iff.mp hy)
      simp [DictEntry.refKey, hkey]
    have a' : ¬ es.toList.any (·.refKey) = true := by rw [a]; exact Bool.false_ne_true
    rw [if_neg a']
    exact congrArg some e

theorem ObjM.look {h : Heap} {x dx C : Addr} {mA : Str → Option Value} (I : ObjM h x dx C mA) : ∃ od, PySem.W.InstAt h x (PySem.W.instObj C dx) C (some od) ∧ ∀ name, PySem.W.lookIn name od = some (mA name) :=
  let ⟨od, ho, hl⟩ := lookIn_ns I.ns
  ⟨od, ⟨I.obj, rfl, rfl, ho⟩, hl⟩

section
variable {prog : Program} {w : World} {A : Around} {E : Value → Shared → Prop} {s : Shared} {K : PySem.W.Frag} {x dx C f : Addr} {mA : Str → Option Value} {name : Str} {v : Value}





end


theorem RelO.some_of {v : V} {o : Option Value} (r : RelO (some v) o) : ∃ u, o = some u ∧ RelV v u := by
  cases o with
  | none => exact (show False from r).elim
  | some u => exact ⟨u, rfl, r⟩

section
variable {P : Program} {w : World} {H H' : Hp} {h h' : Heap} {a C dx : Addr} {fs fs' : List (Str × V)}
theorem ins_get (hok : HOk P w H h) (e : H a = some (.ins C dx fs)) : ∃ mA, ObjM h a dx C mA ∧ (∀ f, RelO (fs.lookup f) (mA f)) ∧ PySem.Within mA (fs.map (·.1)) ∧ fs.length ≤ 1000 ∧ H dx = some (.own a) := by
  obtain ⟨d, z, ne, ob, mA, n, r, q⟩ := (show ObjOk P w H h a (.ins C dx fs) from hok a _ e)
  exact ⟨mA, ⟨ob, n, ne⟩, r, q, z, d⟩
end

structure Cls (K : PySem.W.Frag) (C : Addr) : Prop where
  pg : PySem.W.plainGet K C Str.empty = true
  hd : PySem.W.hasDictIn K C = true
  po : PySem.W.plainOver K C = true
  sa : PySem.W.findIn K (.ref C) "__setattr__" = some (some (.builtin "object.__setattr__"))
theorem Cls.get {K : PySem.W.Frag} {C : Addr} (c : Cls K C) (f : Str) : PySem.W.plainGet K C f = true := c.pg
structure Con (K : PySem.W.Frag) (C : Addr) (f : Str) (v : V) (u : Value) : Prop where
  at_ : PySem.W.findIn K (.ref C) f = some (some u)
  rel : RelV v u
  get : PySem.W.specialIn K u "__get__" = some none
  cp : PySem.W.copiedNames.contains f = false
structure Meth (K : PySem.W.Frag) (C : Addr) (m : Str) (f : Addr) : Prop where
  at_ : PySem.W.findIn K (.ref C) m = some (some (.ref f))
  fn : PySem.W.isFn K (.ref f) = true
  kp : PySem.W.keepIn K (.ref f) = true

section
variable {X : Cx} {pins : List (Addr × Obj)} {σ : St} {H : Hp} {s : Shared} {a C dx : Addr} {fs : List (Str × V)} {f : Str} {v : V} {A : Around} {E : Value → Shared → Prop}






end


section
variable {X : Cx} {o e value : Expr} {f : Str} {pos pos' tpos : Pos} {ta tv : TE}

end

section
variable {X : Cx} {pins : List (Addr × Obj)} {σ : St} {H : Hp} {s : Shared} {A : Around} {E : Value → Shared → Prop} {Q : Value → Shared → Prop} {c : Value} {b : Bool}
inductive TyOf (K : PySem.W.Frag) (H : Hp) : V → Value → Prop where
  | non : TyOf K H .non (.type "NoneType")
  | bl (x : Bool) : TyOf K H (.bl x) (.type "bool")
  | int (i : Int) : TyOf K H (.int i) (.type "int")
  | str (x : Str) : TyOf K H (.str x) (.type "str")
  | flt (x : UInt64) : TyOf K H (.flt x) (.type "float")
  | lst {a : Addr} {xs : List V} (e : H a = some (.lst xs)) : TyOf K H (.ref a) (.type "list")
  | frz {a : Addr} {o : Obj} {xs : List V} (e : H a = some (.frz o (.lst xs))) : TyOf K H (.ref a) (.type "list")
  | tup {a : Addr} {xs : List V} (e : H a = some (.tup xs)) : TyOf K H (.ref a) (.type "tuple")
  | dK {a : Addr} {kvs : List (Key × V)} (e : H a = some (.dK kvs)) : TyOf K H (.ref a) (.type "dict")
  | dT {a : Addr} {kvs : List (List Key × V)} (e : H a = some (.dT kvs)) : TyOf K H (.ref a) (.type "dict")
  | ins {a C dx : Addr} {fs : List (Str × V)} (e : H a = some (.ins C dx fs)) (cl : Cls K C) (ha : PySem.W.findIn K (.ref C) "__class__" = some (some (.builtin "object.__class__")))
      (hn : PySem.W.specialIn K (.builtin "object.__class__") "__get__" = some (some (.builtin "getset_descriptor.__get__"))) (htk : PySem.W.takesIn K (.builtin "object.__class__") = some true)
      (hm : PySem.W.mroIn K C (.type "object") = some true) : TyOf K H (.ref a) (.ref C)
theorem isinst_ok {x : V} {u t : Value} (I : Inv X pins σ H s) (rx : RelV x u) (ty : TyOf X.K H x t) (e : PySem.W.kitOne X.K t c = some b) (h : ∀ tk, Q (.bool b) { s with toks := tk }) :
    wpAny (model X.prog X.w) A (call (.builtin "isinstance") [u, c]) Q E s := by
  cases ty with
  | non => cases (show u = Value.none from rx); exact PySem.W.kia_one PySem.W.kitx_none I.kIn True.intro e (fun z => nomatch z) h
  | bl y => cases (show u = Value.bool y from rx); exact PySem.W.kia_one PySem.W.kitx_bool I.kIn True.intro e (fun z => nomatch z) h
  | int i => obtain ⟨t, q⟩ := (show ∃ t, u = Value.int i t from rx); cases q; exact PySem.W.kia_one PySem.W.kitx_int I.kIn True.intro e (fun z => nomatch z) h
  | str y => obtain ⟨t, q⟩ := (show ∃ t, u = Value.str y t from rx); cases q; exact PySem.W.kia_one PySem.W.kitx_str I.kIn True.intro e (fun z => nomatch z) h
  | flt y => obtain ⟨t, q⟩ := (show ∃ t, u = Value.float y t from rx); cases q; exact PySem.W.kia_one PySem.W.kitx_float I.kIn True.intro e (fun z => nomatch z) h
  | @lst a xs ea =>
    cases (show u = Value.ref a from rx)
    obtain ⟨_, _, n, _, h1⟩ := (show ObjOk X.prog X.w H s.heap a (.lst xs) from I.hok a _ ea)
    exact PySem.W.kia_one PySem.W.kitx_list I.kIn ⟨_, h1, rfl⟩ e (fun z => nomatch z) h
  | @frz a ob xs ea =>
    cases (show u = Value.ref a from rx)
    obtain ⟨_, _, _, n, _, h1⟩ := (show ObjOk X.prog X.w H s.heap a (.frz ob (.lst xs)) from I.hok a _ ea)
    exact PySem.W.kia_one PySem.W.kitx_list I.kIn ⟨_, h1, rfl⟩ e (fun z => nomatch z) h
  | @tup a xs ea =>
    cases (show u = Value.ref a from rx)
    obtain ⟨_, _, _, p⟩ := (show ObjOk X.prog X.w H s.heap a (.tup xs) from I.hok a _ ea)
    obtain ⟨o, h1, h2, _⟩ := p
    exact PySem.W.kia_one PySem.W.kitx_tuple I.kIn ⟨o, h1, h2⟩ e (fun z => nomatch z) h
  | @dK a kvs ea =>
    cases (show u = Value.ref a from rx)
    obtain ⟨_, _, vs, _, p⟩ := (show ObjOk X.prog X.w H s.heap a (.dK kvs) from I.hok a _ ea)
    obtain ⟨o, es, ep, h1, h2, _⟩ := p
    exact PySem.W.kia_one PySem.W.kitx_dict I.kIn ⟨o, h1, h2.1⟩ e (fun z => nomatch z) h
  | @dT a kvs ea =>
    cases (show u = Value.ref a from rx)
    obtain ⟨_, _, xs, _, o, es, ep, h1, h2, _⟩ := (show ObjOk X.prog X.w H s.heap a (.dT kvs) from I.hok a _ ea)
    exact PySem.W.kia_one PySem.W.kitx_dict I.kIn ⟨o, h1, h2.1⟩ e (fun z => nomatch z) h
  | @ins a C dx fs ea cl ha hn htk hm =>
    cases (show u = Value.ref a from rx)
    obtain ⟨mA, O, _⟩ := ins_get I.hok ea
    obtain ⟨od, J, _⟩ := O.look
    exact PySem.W.kia_one (PySem.W.kitx_own (cl.get _) cl.hd ha hn htk hm) I.kIn J e (fun z => nomatch z) h
end
end L2

namespace L2
open PySem PySem.Spec PyProof.Rows

structure Room (k : Nat) (A : Around) : Prop where
  hd : A.handled = none
  dp : A.depth + 3 * k + 5 < recursionLimit
  un : A.units + 16 * k + 200 < cLine
theorem Room.mono {j k : Nat} {A : Around} (r : Room k A) (h : j ≤ k) : Room j A := ⟨r.hd, by have := r.dp; omega, by have := r.un; omega⟩
theorem Room.deeper {k : Nat} {A : Around} (r : Room (k + 1) A) (env : Env) : Room k (A.deeper env) :=
  ⟨r.hd, by have := r.dp; show A.depth + 1 + 3 * k + 5 < _; omega, by have := r.un; show A.units + 3 + 16 * k + 200 < _; omega⟩
theorem Room.depth {k : Nat} {A : Around} (r : Room k A) : A.depth < recursionLimit := by have := r.dp; omega
theorem Room.units {k : Nat} {A : Around} (r : Room k A) : A.units + 64 < cLine := by have := r.un; omega

noncomputable def tNil : TA := fun _ H Q => Q [] H
noncomputable def tCons (ta : TE) (tr : TA) : TA := fun σ H Q => ta σ H fun x H1 => tr σ H1 fun xs H2 => Q (x :: xs) H2
section
variable {X : Cx} {e : Expr} {es : List Expr} {te : TE} {t : TA} {pos : Pos}
theorem pa_nil : PA X [] tNil := fun _ _ _ _ H Q I h => Calls.spliced_nil ⟨[], H, I, .nil, h⟩
theorem pa_cons (ha : PE X e te) (hr : PA X es t) (hs : starEach (e :: es) X.env = (false, eval e X.env) :: starEach es X.env := by rfl) : PA X (e :: es) (tCons te t) := by
  intro pos pins s σ H Q I h
  rw [hs]
  show wpAny _ _ (spliced ((false, eval e X.env) :: backTo pos (starEach es X.env))) _ _ s
  refine Calls.spliced_cons (thn (ha pins s σ H _ I h) fun u s1 ⟨x, H1, I1, r1, q1⟩ => ?_)
  exact thn (hr pos pins s1 σ H1 _ I1 q1) fun us s2 ⟨xs, H2, I2, r2, q2⟩ => ⟨x :: xs, H2, I2, .cons r1 r2, q2⟩

noncomputable def tTup (t : TA) : TE := fun σ H Q => t σ H fun xs H1 => xs.length ≤ sizeLine ∧ ∀ p, H1 p = none → Q (.ref p) (upd H1 p (.tup xs))
noncomputable def tLst (t : TA) : TE := fun σ H Q => t σ H fun xs H1 => xs.length ≤ sizeLine ∧ ∀ p, H1 p = none → Q (.ref p) (upd H1 p (.lst xs))
theorem pe_tup {x1} (h : PA X es t) : PE X (.Tuple es x1 pos) (tTup t) := by
  intro pins s σ H Q I hq
  refine wpAny_Tuple_spliced (thn (h pos pins s σ H _ I hq) fun us s1 ⟨xs, H1, I1, r, z, q⟩ => ⟨by rw [← r.length]; exact z, ?_⟩)
  have hf : H1 s1.heap.objs.size = none := I1.hok.fresh (Nat.le_refl _)
  refine ⟨.ref s1.heap.objs.size, upd H1 s1.heap.objs.size (.tup xs), I1.laid (t' := s1.toks) (fun b u e => Heap.get?_push_of_some _ e) (Nat.le_refl _) ?_, rfl, q _ hf⟩
  exact ⟨z, us, r, ⟨_, Heap.get?_push_size _ rfl, rfl, _, rfl⟩⟩
theorem pe_lst (h : PA X es t) : PE X (.List es pos) (tLst t) := by
  intro pins s σ H Q I hq
  refine wpAny_List_spliced (thn (h pos pins s σ H _ I hq) fun us s1 ⟨xs, H1, I1, r, z, q⟩ => ⟨by rw [← r.length]; exact z, ?_⟩)
  have hf : H1 s1.heap.objs.size = none := I1.hok.fresh (Nat.le_refl _)
  refine ⟨.ref s1.heap.objs.size, upd H1 s1.heap.objs.size (.lst xs), I1.laid (t' := s1.toks) (fun b u e => Heap.get?_push_of_some _ e) (Nat.le_refl _) ?_, rfl, q _ hf⟩
  exact ⟨z, us, 0, r, Heap.get?_push_size _ rfl⟩
end

abbrev Sp := List V → Hp → VK → XK → Prop
abbrev CXT := List Env → Hp → Shared → XK → Value → Shared → Prop

structure Env0 (P : Program) (w : World) (K : PySem.W.Frag) (mg : Str → Option Value) (base : Heap) (A : Around) (outer : List Env) (s : Shared) (H : Hp) : Prop where
  frames : A.frames = some outer
  mod : Mod K mg base
  bs : ∀ b o, base.get? b = some o → s.heap.get? b = some o ∧ H b = none
  bsz : base.objs.size ≤ s.heap.objs.size
  funs : s.heap.FunFrames base outer
  frf : ∀ b ∈ frs outer, H b = none
  hok : HOk P w H s.heap
  bare : AllBare s.gens
noncomputable def CE (outer : List Env) (P : Program) (w : World) (H : Hp) (s : Shared) (Q : VK) (u : Value) (s' : Shared) : Prop :=
  ∃ v H', s'.os = s.os ∧ AllBare s'.gens ∧ Un (frs outer) [] H H' s.heap s'.heap ∧ HOk P w H' s'.heap ∧ RelV v u ∧ Q v H'
noncomputable def CR (CX : CXT) (outer : List Env) (P : Program) (w : World) (H : Hp) (s : Shared) (Q : VK) (E : XK) (r : Result) (s' : Shared) : Prop :=
  match r with
  | .ok (.ret u) => CE outer P w H s Q u s'
  | .ok _ => False
  | .error e => CX outer H s E e s'
structure FnOk (P : Program) (w : World) (K : PySem.W.Frag) (mg : Str → Option Value) (base : Heap) (CX : CXT) (k : Nat) (f : Addr) (fd : FuncData) (ps : List Str) (sp : Sp) : Prop where
  len : ∀ vs H Q E, sp vs H Q E → vs.length = ps.length
  run : ∀ (A : Around) (outer : List Env) (s : Shared) (H : Hp) (args : Args) (us : List Value) (vs : List V) (Q : VK) (E : XK), Room k A → Env0 P w K mg base A outer s H → BindsTo s fd args (ps.zip us) → Vals vs us → sp vs H Q E →
    codeAny (model P w) A (.call (.ref f) args) (CR CX outer P w H s Q E) s


section
variable {X : Cx} {pins : List (Addr × Obj)} {σ : St} {H : Hp} {s s' : Shared}
theorem Inv.env0 (I : Inv X pins σ H s) : Env0 X.prog X.w X.K X.mg X.base X.A X.stack s H :=
  ⟨I.ok.frames, I.ok.mod, I.bs, Nat.le_trans I.ok.bsz I.sz, I.stack, I.stkFree, I.hok, I.bare⟩
theorem Inv.after {Q : VK} {u : Value} (I : Inv X pins σ H s) (h : CE X.stack X.prog X.w H s Q u s') : EP X pins σ Q u s' := by
  obtain ⟨v, H', os, bare, un, hok, r, q⟩ := h
  obtain ⟨hh, g, d, t, os'⟩ := s'
  obtain rfl : os' = s.os := os
  exact ⟨v, H', I.call (h' := hh) (g' := g) (d' := d) (t' := t) (ch := []) un hok bare (fun b z => absurd z (by simp)), r, q⟩
end

noncomputable def tCall (sp : Sp) (dvs : List V) (E : XK) (t : TA) : TE := fun σ H Q => t σ H fun vs H1 => sp (vs ++ dvs) H1 Q E

noncomputable def Binds (K : PySem.W.Frag) (fd : FuncData) (ps : List Str) (ds : List Value) : Prop :=
  ∀ (s : Shared) (us : List Value), K.In s.heap → (us ++ ds).length = ps.length → BindsTo s fd ⟨us, []⟩ (ps.zip (us ++ ds))
theorem Binds.all {K : PySem.W.Frag} {fd : FuncData} {ps : List Str} (h : ∀ us : List Value, us.length = ps.length → bindArgs fd ⟨us, []⟩ = pure (ps.zip us)) : Binds K fd ps [] := fun s us _ hl => by
  rw [List.append_nil] at hl ⊢
  exact .of_eq (h us hl)

noncomputable def Passes (CX : CXT) (X : Cx) (E : XK) : Prop := ∀ (pins : List (Addr × Obj)) (σ : St) (H : Hp) (s : Shared) (e : Value) (s' : Shared), Inv X pins σ H s → CX X.stack H s E e s' → X.xe e s'

section
variable {X : Cx} {CX : CXT} {k : Nat} {f C : Addr} {fd : FuncData} {ps : List Str} {sp : Sp} {dvs : List V} {ds : List Value} {E : XK} {x m : Str} {p pos apos : Pos} {e o : Expr} {es : List Expr} {ta : TE} {t : TA}

theorem run_fn {pins : List (Addr × Obj)} {σ : St} {H : Hp} {s : Shared} {Q : VK} {us : List Value} {vs : List V} (F : FnOk X.prog X.w X.K X.mg X.base CX k f fd ps sp) (hr : Room k X.A) (hb : Binds X.K fd ps ds) (hd : Vals dvs ds) (hx : Passes CX X E)
    (I : Inv X pins σ H s) (r : Vals vs us) (h : sp (vs ++ dvs) H Q E) : wpAny (model X.prog X.w) X.A (call (.ref f) us) (EP X pins σ Q) X.xe s := by
  have r2 : Vals (vs ++ dvs) (us ++ ds) := r.append hd
  have hl : (us ++ ds).length = ps.length := by rw [← r2.length]; exact F.len _ _ _ _ h
  refine wpAny_call (codeAny_mono (F.run X.A X.stack s H ⟨us, []⟩ (us ++ ds) (vs ++ dvs) Q E hr I.env0 (hb s us I.kIn hl) r2 h) fun r s' hq => ?_)
  cases r with
  | error e => exact hx pins σ H s e s' I hq
  | ok fl =>
    cases fl with
    | ret u => exact I.after hq
    | next => exact False.elim hq
    | brk => exact False.elim hq
    | cont => exact False.elim hq

theorem pe_call (F : FnOk X.prog X.w X.K X.mg X.base CX k f fd ps sp) (hr : Room k X.A) (hg : Gl X x) (hm : X.mg x = some (.ref f)) (hk : PySem.W.keepIn X.K (.ref f) = true) (hb : Binds X.K fd ps ds) (hd : Vals dvs ds) (hx : Passes CX X E)
    (ha : PA X (e :: es) t) (hdb : (x == ("__debug__" : Str)) = false := by decide) (he : starEach (e :: es) X.env = (false, eval e X.env) :: starEach es X.env := by rfl) (hpl : (backTo pos (starEach es X.env)).any (·.1) = false := by rfl) :
    PE X (.Call (.Name x p) (e :: es) [] pos) (tCall sp dvs E t) := by
  intro pins s σ H Q I h
  refine wpAny_Call_Name_kw (ld_glob I hg hm ?_ hdb)
  refine PySem.W.callWith_K (h₀ := X.base) I.ok.mod.kin hk (thn (ha pos pins s σ H _ I h) fun us s1 ⟨vs, H1, I1, r, q⟩ => ⟨I1.kIn, ?_⟩) he hpl
  exact run_fn F hr hb hd hx I1 r q


structure Mk (K : PySem.W.Frag) (C f : Addr) : Prop where
  makes : PySem.W.makesIn K C = true
  init : PySem.W.findIn K (.ref C) "__init__" = some (some (.ref f))
  fn : PySem.W.isFn K (.ref f) = true
  kp : PySem.W.keepIn K (.ref C) = true

end

noncomputable def PK (X : Cx) (kws : List Keyword) (t : TA) : Prop :=
  ∀ (pos : Pos) (pins : List (Addr × Obj)) (s : Shared) (σ : St) (H : Hp) (Q : List V → Hp → Prop), Inv X pins σ H s → t σ H Q → wpAny (model X.prog X.w) X.A (evalAll ((backToKw pos (keywordEach kws X.env)).map (·.2))) (AP X pins σ Q) X.xe s
section
variable {X : Cx} {CX : CXT} {k : Nat} {f C : Addr} {fd : FuncData} {ps ks : List Str} {sp : Sp} {E : XK} {x m : Str} {p pos apos kpos : Pos} {e o : Expr} {es : List Expr} {kws : List Keyword} {te ta : TE} {t tk : TA} {nm : Option Str}
theorem pk_nil : PK X [] tNil := fun _ _ _ _ H Q I h => wpAny_evalAll_nil ⟨[], H, I, .nil, h⟩
theorem pk_cons (ha : PE X e te) (hr : PK X kws t) : PK X (⟨nm, e, kpos⟩ :: kws) (tCons te t) := by
  intro pos pins s σ H Q I h
  show wpAny _ _ (evalAll ((do let v ← eval e X.env; standAt pos; pure v) :: (backToKw pos (keywordEach kws X.env)).map (·.2))) _ _ s
  refine wpAny_evalAll_cons (wpAny_bind (thn (ha pins s σ H _ I h) fun u s1 ⟨x, H1, I1, r1, q1⟩ => wpAny_bind (wpAny_standAt (wpAny_pure ?_))))
  exact thn (hr pos pins s1 σ H1 _ I1 q1) fun us s2 ⟨xs, H2, I2, r2, q2⟩ => ⟨x :: xs, H2, I2, .cons r1 r2, q2⟩

structure KBinds (K : PySem.W.Frag) (fd : FuncData) (ps ks : List Str) (g : List Value → List Value → List Value) (gV : List V → List V → List V) : Prop where
  to : ∀ (s : Shared) (us ws : List Value), K.In s.heap → (g us ws).length = ps.length → BindsTo s fd ⟨us, ks.zip ws⟩ (ps.zip (g us ws))
  rel : ∀ {vs : List V} {us : List Value} {zs : List V} {ws : List Value}, Vals vs us → Vals zs ws → Vals (gV vs zs) (g us ws)
variable {g : List Value → List Value → List Value} {gV : List V → List V → List V}
end

structure FnScope (N P : List Str) (sc : Scope) : Prop where
  kind : sc.kind = .function
  co : sc.isCoroutine = false
  gen : sc.isGenerator = false
  nd : N.Nodup
  pre : N.take P.length = P
  par : ∀ x ∈ P, sc.names.lookup x = some .local ∨ sc.names.lookup x = some .cell
  nofree : ∀ y ∈ sc.names, y.2 ≠ .free

theorem bindL_out {kindOf : Str → Option NameKind} {x : Str} : ∀ {binds : List (Str × Value)} {m : Str → Option Value}, (∀ v, (x, v) ∉ binds) → bindL kindOf binds m x = m x
  | [], _, _ => rfl
  | (n, v) :: r, m, h => by
    unfold bindL
    rw [bindL_out fun w hw => h w (List.mem_cons_of_mem _ hw)]
    split
    · have : x ≠ n := by rintro rfl; exact h v List.mem_cons_self
      simp [this]
    · rfl
theorem bindC_out {kindOf : Str → Option NameKind} {x : Str} : ∀ {binds : List (Str × Value)} {m : Str → Option Value}, (∀ v, (x, v) ∉ binds) → bindC kindOf binds m x = m x
  | [], _, _ => rfl
  | (n, v) :: r, m, h => by
    unfold bindC
    rw [bindC_out fun w hw => h w (List.mem_cons_of_mem _ hw)]
    split
    · rfl
    · have : x ≠ n := by rintro rfl; exact h v List.mem_cons_self
      simp [this]
theorem bindL_get {kindOf : Str → Option NameKind} {x : Str} {v : Value} : ∀ {P : List Str} {vs : List Value} {i : Nat} {m : Str → Option Value}, P.Nodup → P[i]? = some x → vs[i]? = some v → kindOf x = some .local →
    bindL kindOf (P.zip vs) m x = some v
  | [], _, _, _, _, h, _, _ => by simp at h
  | _ :: _, [], _, _, _, _, h, _ => by simp at h
  | p :: P, w :: vs, 0, m, nd, h1, h2, hk => by
    simp at h1 h2; subst h1; subst h2
    show bindL kindOf ((p, w) :: P.zip vs) m p = _
    unfold bindL
    rw [bindL_out fun v hv => (List.nodup_cons.mp nd).1 (List.of_mem_zip hv).1, if_pos hk]
    simp
  | p :: P, w :: vs, i + 1, m, nd, h1, h2, hk => by
    show bindL kindOf ((p, w) :: P.zip vs) m x = _
    unfold bindL
    exact bindL_get (i := i) (List.nodup_cons.mp nd).2 (by simpa using h1) (by simpa using h2) hk
theorem bindC_get {kindOf : Str → Option NameKind} {x : Str} {v : Value} : ∀ {P : List Str} {vs : List Value} {i : Nat} {m : Str → Option Value}, P.Nodup → P[i]? = some x → vs[i]? = some v → kindOf x ≠ some .local →
    bindC kindOf (P.zip vs) m x = some v
  | [], _, _, _, _, h, _, _ => by simp at h
  | _ :: _, [], _, _, _, _, h, _ => by simp at h
  | p :: P, w :: vs, 0, m, nd, h1, h2, hk => by
    simp at h1 h2; subst h1; subst h2
    show bindC kindOf ((p, w) :: P.zip vs) m p = _
    unfold bindC
    rw [bindC_out fun v hv => (List.nodup_cons.mp nd).1 (List.of_mem_zip hv).1, if_neg hk]
    simp
  | p :: P, w :: vs, i + 1, m, nd, h1, h2, hk => by
    show bindC kindOf ((p, w) :: P.zip vs) m x = _
    unfold bindC
    exact bindC_get (i := i) (List.nodup_cons.mp nd).2 (by simpa using h1) (by simpa using h2) hk

noncomputable def start (N : List Str) (vs : List V) : St := vs.map some ++ List.replicate (N.length - vs.length) none

noncomputable def cxOf (CX : CXT) (P : Program) (w : World) (K : PySem.W.Frag) (mg : Str → Option Value) (base : Heap) (N : List Str) (qual : Str) (scope : Scope) (f : Addr) (cd : Value) (A : Around) (outer : List Env) (s : Shared) (H : Hp) (E : XK) : Cx where
  prog := P
  w := w
  K := K
  mg := mg
  base := base
  A := A.deeper (envOfC qual scope s.heap.objs.size f cd)
  N := N
  s₀ := s
  H₀ := H
  env := envOfC qual scope s.heap.objs.size f cd
  outer := outer
  stack := envOfC qual scope s.heap.objs.size f cd :: outer
  ex := []
  calm := true
  fn := fun _ => true
  pn := []
  xe := fun e s' => wpAny (model P w) (A.deeper (envOfC qual scope s.heap.objs.size f cd)) (leaving (envOfC qual scope s.heap.objs.size f cd) e) (fun _ s'' => CX outer H s E e s'') (fun e' s'' => CX outer H s E e' s'') s'

theorem cell_has {sc : Scope} {n : Nat} {x : Str} (h : sc.names.lookup x = some .cell) : ∃ c, (cellsFrom n sc.names []).lookup x = some c := by
  have q := PySem.W.cellsFrom_some sc.names n [] (.inl h)
  exact Option.isSome_iff_exists.mp q

theorem inv_start {CX : CXT} {P : Program} {w : World} {K : PySem.W.Frag} {mg : Str → Option Value} {base : Heap} {N ps : List Str} {qual : Str} {scope : Scope} {f : Addr} {cd : Value} {A : Around} {outer : List Env} {s s1 : Shared} {H : Hp} {E : XK} {us : List Value} {vs : List V}
    (S : FnScope N ps scope) (hd : A.handled = none) (e0 : Env0 P w K mg base A outer s H) (hl : vs.length = ps.length) (r : Vals vs us)
    (x : InCallC s s.heap.objs.size (bindL (envOfC qual scope s.heap.objs.size f cd).kindOf (ps.zip us) fun _ => none) (cellsFrom (s.heap.objs.size + 1) scope.names []) (bindC (envOfC qual scope s.heap.objs.size f cd).kindOf (ps.zip us) fun _ => none) s1) :
    Inv (cxOf CX P w K mg base N qual scope f cd A outer s H E) [] (start N vs) H s1 := by
  have hpl : ps.length ≤ N.length := by have := congrArg List.length S.pre; rw [List.length_take] at this; omega
  obtain ⟨h1, tk, rfl, hk⟩ := x.done
  have noA : ∀ b : Addr, b ∉ (cxOf CX P w K mg base N qual scope f cd A outer s H E).ex := fun b z => absurd (show b ∈ ([] : List Addr) from z) (by simp)
  refine ⟨⟨e0.mod, S.kind, rfl, rfl, Nat.le_refl _, fun y z c h1 h2 => ?_, fun y hy => ?_, fun y c _ h => ?_, fun _ => hd, Around.frames_deeper e0.frames, .inr ⟨rfl, rfl⟩, fun b z => absurd z (noA b), e0.bs, e0.bsz, fun b _ _ => noA b, fun b z => absurd z (noA b), e0.funs, e0.frf⟩,
    rfl, e0.bare, Un.kept hk, ⟨_, x.toInCall.ns, fun i y v h1 h2 h3 => ?_⟩, fun y c h => ⟨_, x.cell y c h⟩, e0.hok.fresh (Nat.le_refl _), fun y c h => ?_, fun p hp => absurd (show p ∈ ([] : List (Addr × Obj)) from hp) (by simp), e0.hok.kept hk, ?_⟩
  · exact name_of_addr x.apart (PySem.mem_of_lookup h1) (PySem.mem_of_lookup h2)
  · have hy : scope.names.lookup y = some .cell ∨ scope.names.lookup y = some .free := hy
    rcases hy with hy | hy
    · exact cell_has hy
    · exact absurd rfl (S.nofree _ (PySem.mem_of_lookup hy))
  · exact Nat.le_of_lt (x.above y c (PySem.mem_of_lookup h))
  · have hi : i < vs.length := by
      unfold start at h2
      by_cases hi : i < vs.length
      · exact hi
      · rw [List.getElem?_append_right (by simpa using hi)] at h2
        rw [List.getElem?_replicate] at h2
        split at h2 <;> cases h2
    have ha : vs[i]? = some v := by
      unfold start at h2
      rw [List.getElem?_append_left (by simpa using hi), List.getElem?_map] at h2
      cases e : vs[i]? with
      | none => rw [e] at h2; cases h2
      | some a => rw [e] at h2; cases h2; rfl
    obtain ⟨u, hu, rv⟩ := r.get ha
    have hp : ps[i]? = some y := by
      rw [← S.pre, List.getElem?_take_of_lt (by omega)]; exact h1
    have ndP : ps.Nodup := by rw [← S.pre]; exact S.nd.sublist (List.take_sublist _ _)
    refine ⟨u, rv, ?_⟩
    rcases S.par y (List.mem_of_getElem? hp) with k | k
    · exact .inl ⟨k, bindL_get ndP hp hu k⟩
    · obtain ⟨c, e⟩ := cell_has (n := s.heap.objs.size + 1) k
      refine .inr ⟨.inl k, c, e, ?_⟩
      have q := x.cell y c e
      rw [bindC_get ndP hp hu (by show scope.names.lookup y ≠ _; rw [k]; decide)] at q
      exact q
  · exact e0.hok.fresh (Nat.le_of_lt (x.above y c (PySem.mem_of_lookup h)))
  · unfold start
    show _ = N.length
    rw [List.length_append, List.length_map, List.length_replicate]
    omega

theorem fn_of {CX : CXT} {P : Program} {w : World} {K : PySem.W.Frag} {mg : Str → Option Value} {base : Heap} {k : Nat} {f : Addr} {name qual : Str} {params : Arguments} {body : List Stmt} {scope : Scope} {dV kV doc pm cdv ct oc : Value} {an od : Option Addr}
    {osl : Array (Option Value)} {N ps : List Str} {sp : Sp} (lk : K.lookup f = some ⟨oc, od, .func (PySem.W.fnOf name qual params body scope dV kV doc pm an cdv ct), osl⟩) (hcd : PySem.W.codeIn K cdv qual = true) (S : FnScope N ps scope)
    (len : ∀ vs H Q E, sp vs H Q E → vs.length = ps.length)
    (hbody : ∀ (A : Around) (outer : List Env) (s : Shared) (H : Hp) (vs : List V) (Q : VK) (E : XK), Room k (A.deeper (envOfC qual scope s.heap.objs.size f cdv)) → sp vs H Q E →
      ∃ t, PSs (cxOf CX P w K mg base N qual scope f cdv A outer s H E) body t ∧ t { nx := fun _ H' => Q .non H', rt := Q } (start N vs) H) :
    FnOk P w K mg base CX (k + 1) f (PySem.W.fnOf name qual params body scope dV kV doc pm an cdv ct) ps sp := by
  refine ⟨len, fun A outer s H args us vs Q E hr e0 hb r hsp => ?_⟩
  have hl := len _ _ _ _ hsp
  have KX : K.In s.heap := e0.mod.kin.keeps fun b o e => (e0.bs b o e).1
  have lim : s.heap.NoLimit := e0.mod.nolimit.keeps fun b o e => (e0.bs b o e).1
  have hkind : ∀ y ∈ ps.zip us, scope.names.lookup y.1 = some .local ∨ (scope.names.lookup y.1 = some .cell ∧ ((cellsFrom (s.heap.objs.size + 1) scope.names []).lookup y.1).isSome = true) := fun ⟨n, v⟩ hy => by
    rcases S.par n (List.of_mem_zip hy).1 with q | q
    · exact .inl q
    · exact .inr ⟨q, PySem.W.cellsFrom_some _ _ _ (.inl q)⟩
  refine codeAny_call_function hr.depth (KX _ _ lk) rfl S.co S.gen rfl (PySem.W.codeRec_of KX hcd) (hb _ _ _ _ ?_)
  refine wpAny_newFunctionEnv_cells S.kind hkind fun env he s1 x => ?_
  subst he
  refine ⟨lim.keeps x.toInCall.keep, codeAny_func ?_⟩
  obtain ⟨t, ht, hq⟩ := hbody A outer s H vs Q E (hr.deeper _) hsp
  have I : Inv (cxOf CX P w K mg base N qual scope f cdv A outer s H E) [] (start N vs) H s1 := inv_start S hr.hd e0 hl r x
  refine wpAny_mono (ht [] s1 (start N vs) H _ I hq) (fun fl s' hs => ?_) fun e s' hs => hs
  have fin : ∀ {σ' : St} {H' : Hp} {v : V} {u : Value}, Inv (cxOf CX P w K mg base N qual scope f cdv A outer s H E) [] σ' H' s' → RelV v u → Q v H' → CE outer P w H s Q u s' :=
    fun {σ' H' v u} J rv q => ⟨v, H', J.os, J.bare, J.base, J.hok, rv, q⟩
  cases fl with
  | ret u =>
    obtain ⟨v, σ', H', J, rv, q⟩ := hs
    exact fin J rv q
  | next =>
    obtain ⟨σ', H', J, q⟩ := hs
    exact fin (v := V.non) (u := Value.none) J rfl q
  | brk =>
    obtain ⟨_, _, _, q⟩ := hs
    exact False.elim q
  | cont =>
    obtain ⟨_, _, _, q⟩ := hs
    exact False.elim q
end L2

namespace L2
open PySem PySem.Spec PyProof.Rows
section
variable {X : Cx} {x : Str} {p pos : Pos} {e : Expr} {es : List Expr} {t : TA} {id T : String} {r : List V → Hp → VK → Prop}

noncomputable def tCB (r : List V → Hp → VK → Prop) (t : TA) : TE := fun σ H Q => t σ H fun vs H1 => r vs H1 Q
theorem pe_callB (hc : CallR X (.builtin id) r) (hg : Gl X x) (hm : X.mg x = none) (hv : bootBuiltins x = some (.builtin id)) (ha : PA X (e :: es) t) (hn : x ≠ "__name__" := by decide) (hdb : (x == ("__debug__" : Str)) = false := by decide)
    (he : starEach (e :: es) X.env = (false, eval e X.env) :: starEach es X.env := by rfl) (hpl : (backTo pos (starEach es X.env)).any (·.1) = false := by rfl) : PE X (.Call (.Name x p) (e :: es) [] pos) (tCB r t) := by
  intro pins s σ H Q I h
  refine wpAny_Call_Name_kw (ld_blt I hg hm hv ?_ hn hdb)
  exact PyProof.Rows.callWith_builtin1 (thn (ha pos pins s σ H _ I h) fun us s1 ⟨vs, H1, I1, r1, q1⟩ => hc pins s1 σ H1 vs us Q I1 r1 q1) he hpl
theorem pe_callTy (hc : CallR X (.type T) r) (hg : Gl X x) (hm : X.mg x = none) (hv : bootBuiltins x = some (.type T)) (ha : PA X (e :: es) t) (hn : x ≠ "__name__" := by decide) (hdb : (x == ("__debug__" : Str)) = false := by decide)
    (he : starEach (e :: es) X.env = (false, eval e X.env) :: starEach es X.env := by rfl) (hpl : (backTo pos (starEach es X.env)).any (·.1) = false := by rfl) : PE X (.Call (.Name x p) (e :: es) [] pos) (tCB r t) := by
  intro pins s σ H Q I h
  refine wpAny_Call_Name_kw (ld_blt I hg hm hv ?_ hn hdb)
  exact PyProof.Rows.callWith_type1 (thn (ha pos pins s σ H _ I h) fun us s1 ⟨vs, H1, I1, r1, q1⟩ => hc pins s1 σ H1 vs us Q I1 r1 q1) he hpl
end
end L2

namespace HT
open PySem PyProof.Rows



section
open PySem.SeqAt
open PySem.AutoSeq1 (wpAny_loadPart')
open PySem.MeetsSeq PySem.MeetsSeq2 PySem.MeetsSeq3

end

section
variable {prog : Program} {w : World} {A : Around} {E : Value → Shared → Prop} {s : Shared}


theorem cat_tup {t b : Addr} {vs ws : List Value} {Q : Value → Shared → Prop} (ht : IsTup s.heap t vs.toArray) (hb : IsTup s.heap b ws.toArray) (hv : vs ≠ [])
    (h1 : ws = [] → Q (.ref t) s) (h2 : ws ≠ [] → Q (.ref s.heap.objs.size) { s with heap := s.heap.push { cls := .type "tuple", data := .seq (vs ++ ws).toArray } })
    (hsz : vs.length + ws.length ≤ sizeLine) : wpAny (model prog w) A (binaryOp .Add (.ref t) (.ref b)) Q E s := by
  obtain ⟨⟨cls, dd, data, sl⟩, ho, hc, n, hd⟩ := id ht
  obtain ⟨⟨cls2, dd2, data2, sl2⟩, ho2, hc2, n2, hd2⟩ := id hb
  simp only at hc hd hc2 hd2
  subst hc hd hc2 hd2
  have e : vs.toArray ++ ws.toArray = (vs ++ ws).toArray := by simp
  by_cases hw : ws = []
  · exact concat_meets ⟨_, ho, rfl⟩ ⟨_, ho2, rfl⟩ noFill_tuple_add seq_tuple_add PySem.F.slot_tuple_add PySem.F.entry_tuple_add (PySem.F.args_tuple_add_2 _ _)
      (tuple_addW1 t b vs.toArray ws.toArray n n2 dd dd2 sl sl2 (by simpa using hv) (by simp [hw])) ⟨ho, ho2, h1 hw⟩
  · refine concat_meets ⟨_, ho, rfl⟩ ⟨_, ho2, rfl⟩ noFill_tuple_add seq_tuple_add PySem.F.slot_tuple_add PySem.F.entry_tuple_add (PySem.F.args_tuple_add_2 _ _)
      (tuple_addW2 t b vs.toArray ws.toArray n n2 dd dd2 sl sl2 (by simpa using hv) (by simpa using hw) (by rw [List.size_toArray, List.size_toArray]; exact hsz)) ⟨ho, ho2, ?_⟩
    rw [e]
    exact h2 hw

noncomputable def sIx (n d : Nat) : Option Int → Nat
  | none => d
  | some v => if v < 0 then (v + (n : Int)).toNat else min v.toNat n
theorem sIx_none (n d : Nat) : sIx n d none = d := rfl
theorem sIx_nat (n d k : Nat) : sIx n d (some (k : Int)) = min k n := by
  show (if (k : Int) < 0 then ((k : Int) + (n : Int)).toNat else min (k : Int).toNat n) = min k n
  rw [if_neg (by omega), Int.toNat_natCast]
theorem sIx_le (n d : Nat) (hd : d ≤ n) (o : Option Int) : sIx n d o ≤ n := by
  cases o with
  | none => exact hd
  | some v =>
    show (if v < 0 then (v + (n : Int)).toNat else min v.toNat n) ≤ n
    by_cases hv : v < 0
    · rw [if_pos hv]; omega
    · rw [if_neg hv]; exact Nat.min_le_right _ _
theorem clip_eq (v : Int) (n d : Nat) : (if v < 0 then max (v + (n : Int)) 0 else min v (n : Int)) = ((sIx n d (some v) : Nat) : Int) := by
  show (if v < 0 then max (v + (n : Int)) 0 else min v (n : Int)) = (((if v < 0 then (v + (n : Int)).toNat else min v.toNat n) : Nat) : Int)
  by_cases hv : v < 0
  · simp only [if_pos hv]; omega
  · simp only [if_neg hv]; omega
theorem adjust_gen (lo hi : Option Int) (n : Nat) : Builtin.Slice.sliceAdjust lo hi 1 (n : Int) = (((sIx n 0 lo : Nat) : Int), ((sIx n n hi : Nat) : Int)) := by
  have h1 : ¬ ((1 : Int) < 0) := by omega
  unfold Builtin.Slice.sliceAdjust
  simp only [h1, if_false]
  refine Prod.ext ?_ ?_
  · cases lo with
    | none => rfl
    | some v => exact clip_eq v n 0
  · cases hi with
    | none => rfl
    | some v => exact clip_eq v n n
theorem places_gen (i j : Nat) : Builtin.Slice.slicePlaces (i : Int) (j : Int) 1 = j - i := by
  unfold Builtin.Slice.slicePlaces
  have h1 : (1 : Int) > 0 := by omega
  simp only [h1, if_true, Int.ediv_one]
  split <;> omega
theorem slicePart_ {v : Value} {o : Option Int} {Q : Option Int → Shared → Prop} (p : IsPart v o) (h : Q o s) : wpAny (model prog w) A (Builtin.Slice.slicePartIndex v) Q E s := by
  cases p with
  | none => exact slicePart_none h
  | int i t => exact slicePart_int h
theorem sliceApplied_gen {sl : Addr} {vl vu : Value} {lo hi : Option Int} {n : Nat} {Q : Int × Int × Nat → Shared → Prop} (hs : s.heap.IsSliceOf sl vl vu .none) (pl : IsPart vl lo) (pu : IsPart vu hi)
    (h : Q (((sIx n 0 lo : Nat) : Int), 1, sIx n n hi - sIx n 0 lo) s) : wpAny (model prog w) A (Builtin.Slice.sliceApplied (.ref sl) (pure (n : Int))) Q E s := by
  obtain ⟨os, hos, hcs, hds⟩ := id hs
  unfold Builtin.Slice.sliceApplied Builtin.Slice.sliceFields
  refine wpAny_bind (wpAny_bind (wpAny_field hos hds (x := vl) rfl (wpAny_bind (wpAny_field hos hds (x := vu) rfl (wpAny_bind (wpAny_field hos hds (x := .none) rfl (wpAny_pure ?_)))))))
  refine wpAny_bind (slicePart_none ?_)
  show wpAny _ _ (if ((1 : Int) == 0) = true then _ else _) _ _ s
  rw [if_neg (by decide)]
  refine wpAny_bind (slicePart_ pl (wpAny_bind (slicePart_ pu (wpAny_bind (wpAny_pure ?_)))))
  show wpAny _ _ (match Builtin.Slice.sliceAdjust lo hi 1 (n : Int) with | (lo, hi) => pure (lo, (1 : Int), Builtin.Slice.slicePlaces lo hi 1)) _ _ s
  rw [adjust_gen lo hi n]
  show wpAny _ _ (pure (((sIx n 0 lo : Nat) : Int), (1 : Int), Builtin.Slice.slicePlaces ((sIx n 0 lo : Nat) : Int) ((sIx n n hi : Nat) : Int) 1)) _ _ s
  rw [places_gen]
  exact wpAny_pure h
theorem pick_gen (xs : Array Value) (i k : Nat) : ((List.range k).filterMap fun (m : Nat) => xs[((i : Int) + (m : Int) * 1).toNat]?).toArray = ((xs.toList.drop i).take k).toArray := by
  have e : (fun (m : Nat) => xs[((i : Int) + (m : Int) * 1).toNat]?) = fun m => xs[i + m]? := by
    funext m
    have : ((i : Int) + (m : Int) * 1).toNat = i + m := by omega
    rw [this]
  rw [e]
  have := pick_run xs i k
  rw [List.filterMap_map] at this
  have e2 : ((fun x => xs[x]?) ∘ fun x => i + x) = fun m => xs[i + m]? := rfl
  rw [e2] at this
  rw [this]

theorem getItem_tuple_cut {t sl : Addr} {items : Array Value} {vl vu : Value} {lo hi : Option Int} {Q : Value → Shared → Prop} (ht : IsTup s.heap t items) (hs : s.heap.IsSliceOf sl vl vu .none) (pl : IsPart vl lo) (pu : IsPart vu hi)
    (hw : ¬ (sIx items.size 0 lo = 0 ∧ sIx items.size items.size hi = items.size))
    (h : Q (.ref s.heap.objs.size) { s with heap := s.heap.push { cls := .type "tuple", data := .seq ((items.toList.drop (sIx items.size 0 lo)).take (sIx items.size items.size hi - sIx items.size 0 lo)).toArray } })
    (hsz : items.size ≤ sizeLine) : wpAny (model prog w) A (getItem (.ref t) (.ref sl)) Q E s := by
  have htake : sizeOk (.seq ((items.toList.drop (sIx items.size 0 lo)).take (sIx items.size items.size hi - sIx items.size 0 lo)).toArray) := by
    show ((items.toList.drop (sIx items.size 0 lo)).take (sIx items.size items.size hi - sIx items.size 0 lo)).toArray.size ≤ sizeLine
    rw [List.size_toArray, List.length_take, List.length_drop, Array.length_toList]
    omega
  have hj : sIx items.size items.size hi ≤ items.size := sIx_le _ _ (Nat.le_refl _) hi
  obtain ⟨os, hos, hcs, hds⟩ := id hs
  have hTs : s.TypeIs (.ref sl) "slice" := ⟨os, hos, hcs⟩
  unfold getItem
  try with_reducible refine wpAny_holding ?_
  first | refine wpAny_bind (wpAny_pure ?_) | skip
  refine wpAny_bind (wpAny_sequenceKey ht.typeIs (by decide) ?_)
  refine wpAny_bind (wpAny_callSpecial?_slot (name := Str.ofString "__getitem__") ht.typeIs PyProof.Rows.slot_tuple_getitem
    (wpAny_call_entry PyProof.Rows.slot_tuple_getitem ht.typeIs entry_tuple_getitem ?_ (args_tuple_getitem _ _)))
  show wpAny _ _ (Builtin.Tuple.tupleItemsOf (.ref t) >>= _) _ _ s
  refine wpAny_bind (tupleItemsOf_ ht ?_)
  refine wpAny_bind (wpAny_typeOf hTs ?_)
  rw [if_pos (by decide)]
  refine wpAny_bind (sliceApplied_gen hs pl pu ?_)
  have hno : ¬ ((((sIx items.size 0 lo : Nat) : Int) == 0 && (1 : Int) == 1 && (sIx items.size items.size hi - sIx items.size 0 lo) == items.size) = true) := by
    intro q
    rw [Bool.and_eq_true, Bool.and_eq_true] at q
    have q1 : ((sIx items.size 0 lo : Nat) : Int) = 0 := eq_of_beq q.1.1
    have q2 : sIx items.size items.size hi - sIx items.size 0 lo = items.size := eq_of_beq q.2
    exact hw ⟨by omega, by omega⟩
  show wpAny _ _ (if (((sIx items.size 0 lo : Nat) : Int) == 0 && (1 : Int) == 1 && (sIx items.size items.size hi - sIx items.size 0 lo) == items.size) = true then _ else _) _ _ s
  rw [if_neg hno, pick_gen]
  first
    | exact wpAny_bind (m := Builtin.Tuple.tupleExact _) (wpAny_newObj_type (wpAny_pure ⟨_, rfl, wpAny_pure h⟩) htake)
    | exact wpAny_bind (m := Builtin.Tuple.tupleExact _) (wpAny_newObj_type (wpAny_bind (wpAny_pure (wpAny_pure ⟨_, rfl, wpAny_pure h⟩))) htake)
    | exact wpAny_bind (wpAny_bind (m := Builtin.Tuple.tupleExact _) (wpAny_newObj_type (wpAny_pure (wpAny_pure ⟨_, rfl, wpAny_pure h⟩)) htake))
    | exact wpAny_bind (wpAny_bind (m := Builtin.Tuple.tupleExact _) (wpAny_newObj_type (wpAny_pure ⟨_, rfl, wpAny_pure h⟩) htake))
end
end HT

namespace L2
open PySem PySem.Spec PyProof.Rows

abbrev TO := St → Hp → (Option Int → Hp → Prop) → Prop
noncomputable def PO (X : Cx) (e : Option Expr) (t : TO) : Prop :=
  ∀ (pins : List (Addr × Obj)) (s : Shared) (σ : St) (H : Hp) (Q : Option Int → Hp → Prop), Inv X pins σ H s → t σ H Q →
    wpAny (model X.prog X.w) X.A (evalPart e X.env) (fun u s' => ∃ o H', Inv X pins σ H' s' ∧ IsPart u o ∧ Q o H') X.xe s
noncomputable def tNoPart : TO := fun _ H Q => Q none H
noncomputable def tPart (t : TE) : TO := fun σ H Q => t σ H fun x H1 => ∃ i, x = .int i ∧ Q (some i) H1


section
variable {X : Cx} {e : Expr} {te : TE} {lo hi : Option Expr} {tl th : TO} {pos p2 : Pos}

theorem po_none : PO X none tNoPart := by
  intro pins s σ H Q I h
  rw [evalPart_none]
  exact wpAny_pure ⟨none, H, I, .none, h⟩
theorem po_some (h : PE X e te) : PO X (some e) (tPart te) := by
  intro pins s σ H Q I hw
  rw [evalPart_some]
  refine thn (h pins s σ H _ I hw) fun u s1 ⟨x, H1, I1, r1, q1⟩ => ?_
  obtain ⟨i, rfl, q⟩ := q1
  obtain ⟨t, rfl⟩ := r1
  exact ⟨some i, H1, I1, .int i t, q⟩

noncomputable def SlR (X : Cx) (r : V → Option Int → Option Int → Hp → VK → Prop) : Prop :=
  ∀ (pins : List (Addr × Obj)) (s : Shared) (σ : St) (H : Hp) (x : V) (v vl vu : Value) (lo hi : Option Int) (sl : Addr) (Q : VK), Inv X pins σ H s → RelV x v → s.heap.IsSliceOf sl vl vu .none → IsPart vl lo → IsPart vu hi → r x lo hi H Q →
    ∃ T id, typeLookup (.type T) "__getitem__" = pure (some (.builtin id)) ∧ s.TypeIs v T ∧ wpAny (model X.prog X.w) X.A (getItem v (.ref sl)) (EP X pins σ Q) X.xe s
noncomputable def tSl (r : V → Option Int → Option Int → Hp → VK → Prop) (te : TE) (tl th : TO) : TE := fun σ H Q => te σ H fun x H1 => tl σ H1 fun l H2 => th σ H2 fun u H3 => r x l u H3 Q
theorem pe_slice {r : V → Option Int → Option Int → Hp → VK → Prop} (hr : SlR X r) (he : PE X e te) (hl : PO X lo tl) (hu : PO X hi th) : PE X (.Subscript e (.Slice lo hi none p2) pos) (tSl r te tl th) := by
  intro pins s σ H Q I h
  refine Subscript_ (thn (he pins s σ H _ I h) fun v s1 ⟨x, H1, I1, r1, q1⟩ => ?_)
  refine wpAny_Slice (thn (hl pins s1 σ H1 _ I1 q1) fun vl s2 ⟨l, H2, I2, pl, q2⟩ => thn (hu pins s2 σ H2 _ I2 q2) fun vu s3 ⟨u, H3, I3, pu, q3⟩ => ?_)
  rw [evalPart_none]
  refine wpAny_pure ?_
  have I4 : Inv X pins σ H3 { s3 with heap := s3.heap.push { cls := .type "slice", data := .fields #[vl, vu, .none] } } := I3.kept (t' := s3.toks) fun b ob q => Heap.get?_push_of_some _ q
  obtain ⟨T, id, hT, ht, hg⟩ := hr pins { s3 with heap := s3.heap.push { cls := .type "slice", data := .fields #[vl, vu, .none] } } σ H3 x v vl vu l u s3.heap.objs.size Q I4 r1 (Heap.IsSliceOf.new ..) pl pu q3
  show wpAny (model X.prog X.w) X.A (subscriptTail e (.Slice lo hi none p2) v (.ref s3.heap.objs.size)) (EP X pins σ Q) X.xe { s3 with heap := s3.heap.push { cls := .type "slice", data := .fields #[vl, vu, .none] } }
  exact tail_any (ops := [.ref s3.heap.objs.size, v]) ht hT hg (by with_unfolding_all rfl)

noncomputable def cutV (xs : List V) (lo hi : Option Int) : List V := (xs.drop (HT.sIx xs.length 0 lo)).take (HT.sIx xs.length xs.length hi - HT.sIx xs.length 0 lo)
theorem cutV_length (xs : List V) (lo hi : Option Int) : (cutV xs lo hi).length ≤ xs.length := by
  unfold cutV
  rw [List.length_take, List.length_drop]
  omega
noncomputable def rSlT (K : PySem.W.Frag) : V → Option Int → Option Int → Hp → VK → Prop := fun x lo hi H Q => ∃ a xs, x = .ref a ∧ SqT K H a xs ∧
  ¬ (HT.sIx xs.length 0 lo = 0 ∧ HT.sIx xs.length xs.length hi = xs.length) ∧ ∀ p, H p = none → Q (.ref p) (upd H p (.tup (cutV xs lo hi)))
theorem sl_tup : SlR X (rSlT X.K) := by
  intro pins s σ H x v vl vu lo hi sl Q I rx hs pl pu h
  obtain ⟨a, xs, rfl, hx, hw, q⟩ := h
  cases rx
  obtain ⟨its, r, ht, hz⟩ := I.tuple hx
  have hlen : its.toArray.size = xs.length := by rw [List.size_toArray]; exact r.length.symm
  refine ⟨"tuple", _, PyProof.Rows.slot_tuple_getitem.lookup, ht.typeIs, ?_⟩
  refine HT.getItem_tuple_cut ht hs pl pu (by rw [hlen]; exact hw) ?_ (by rw [hlen]; exact hz)
  rw [hlen]
  refine ⟨.ref s.heap.objs.size, _, I.laid (t' := s.toks) (o := .tup (cutV xs lo hi)) (fun b ob q => Heap.get?_push_of_some _ q) (Nat.le_refl _) ?_, rfl, q _ (I.hok.fresh (Nat.le_refl _))⟩
  exact ⟨Nat.le_trans (cutV_length xs lo hi) hz, _, (r.drop (HT.sIx xs.length 0 lo)).take (HT.sIx xs.length xs.length hi - HT.sIx xs.length 0 lo), IsTup.new _ _⟩

noncomputable def rCatT (K : PySem.W.Frag) : R2 := fun x y H Q => ∃ a b xs ys, x = .ref a ∧ y = .ref b ∧ SqT K H a xs ∧ SqT K H b ys ∧ xs ≠ [] ∧ xs.length + ys.length ≤ sizeLine ∧
  (ys = [] → Q (.ref a) H) ∧ (ys ≠ [] → ∀ p, H p = none → Q (.ref p) (upd H p (.tup (xs ++ ys))))
theorem Vals.nil_iff {xs : List V} {us : List Value} (r : Vals xs us) : us = [] ↔ xs = [] := by
  cases r with
  | nil => simp
  | cons _ _ => simp
theorem op_catT : OpR X (binaryOp .Add) (rCatT X.K) := by
  intro pins s σ H x y v u Q I rx ry h
  obtain ⟨a, b, xs, ys, rfl, rfl, ha, hb, hx, hz, q1, q2⟩ := h
  cases rx
  cases ry
  obtain ⟨its, r1, p1, _⟩ := I.tuple ha
  obtain ⟨its2, r2, p2, _⟩ := I.tuple hb
  refine HT.cat_tup p1 p2 (fun z => hx (r1.nil_iff.mp z)) (fun z => ⟨.ref a, H, I, rfl, q1 (r2.nil_iff.mp z)⟩) (fun z => ?_) (by rw [← r1.length, ← r2.length]; exact hz)
  refine ⟨.ref s.heap.objs.size, _, I.laid (t' := s.toks) (o := .tup (xs ++ ys)) (fun b ob q => Heap.get?_push_of_some _ q) (Nat.le_refl _) ?_, rfl, q2 (fun w => z (r2.nil_iff.mpr w)) _ (I.hok.fresh (Nat.le_refl _))⟩
  exact ⟨by rw [List.length_append]; exact hz, _, r1.append r2, IsTup.new _ _⟩
end
end L2

namespace L2
open PySem PySem.Spec PyProof.Rows

noncomputable def ixN (n : Nat) (i : Int) : Option Nat := if 0 ≤ i then (if i < n then some i.toNat else none) else if -(n : Int) ≤ i then some (i + n).toNat else none
noncomputable def atI {α : Type} (xs : List α) (i : Int) : Option α := (ixN xs.length i).bind fun j => xs[j]?
theorem ixN_seq {n : Nat} {i : Int} {j : Nat} (h : ixN n i = some j) : seqIndex? i n = some j ∧ j < n ∧ -(n : Int) ≤ i ∧ i < n := by
  unfold ixN at h
  by_cases h0 : 0 ≤ i
  · rw [if_pos h0] at h
    by_cases h1 : i < n
    · rw [if_pos h1] at h
      have e : i.toNat = j := Option.some.inj h
      exact ⟨by rw [seqIndex_of h0 h1, e], by omega, by omega, h1⟩
    · rw [if_neg h1] at h; cases h
  · rw [if_neg h0] at h
    by_cases h1 : -(n : Int) ≤ i
    · rw [if_pos h1] at h
      have e : (i + n).toNat = j := Option.some.inj h
      exact ⟨by rw [seqIndex_neg (by omega) h1, e], by omega, h1, by omega⟩
    · rw [if_neg h1] at h; cases h
theorem atI_get {α : Type} {xs : List α} {i : Int} {v : α} (h : atI xs i = some v) : ∃ j, seqIndex? i xs.length = some j ∧ xs[j]? = some v ∧ j < xs.length ∧ -(xs.length : Int) ≤ i ∧ i < xs.length := by
  unfold atI at h
  cases e : ixN xs.length i with
  | none => rw [e] at h; cases h
  | some j =>
    rw [e] at h
    obtain ⟨h1, h2, h3, h4⟩ := ixN_seq e
    exact ⟨j, h1, h, h2, h3, h4⟩
theorem atI_nat {α : Type} {xs : List α} {j : Nat} {v : α} (h : xs[j]? = some v) : atI xs (j : Int) = some v := by
  have hj : j < xs.length := (List.getElem?_eq_some_iff.mp h).1
  have e : ixN xs.length (j : Int) = some j := by
    unfold ixN
    rw [if_pos (by omega), if_pos (by omega)]; simp
  unfold atI; rw [e]; exact h

noncomputable def PlainIx (b : Expr) : Prop := ∀ o i, subscripted b false o i = operate [o, i] (getItem o i)
noncomputable def IxR (X : Cx) (r : R2) : Prop :=
  ∀ (value slice : Expr) (pins : List (Addr × Obj)) (s : Shared) (σ : St) (H : Hp) (x y : V) (v u : Value) (Q : VK), Inv X pins σ H s → RelV x v → RelV y u → r x y H Q →
    subscripted slice false v u = operate [v, u] (getItem v u) → wpAny (model X.prog X.w) X.A (subscriptTail value slice v u) (EP X pins σ Q) X.xe s
noncomputable def MtR (X : Cx) (id : String) (r : V → List V → Hp → VK → Prop) : Prop :=
  ∀ (pins : List (Addr × Obj)) (s : Shared) (σ : St) (H : Hp) (x : V) (xs : List V) (v : Value) (us : List Value) (Q : VK), Inv X pins σ H s → RelV x v → Vals xs us → r x xs H Q →
    wpAny (model X.prog X.w) X.A (call (.builtin id) (v :: us)) (EP X pins σ Q) X.xe s
section
variable {X : Cx} {a b : Expr} {ta tb : TE} {pos : Pos}
theorem pe_ix {r : R2} (hr : IxR X r) (ha : PE X a ta) (hb : PE X b tb) (hs : PlainIx b) : PE X (.Subscript a b pos) (tOp r ta tb) := by
  intro pins s σ H Q I h
  exact Subscript_ (binT ha hb I h fun v u s2 x y H2 I2 rx ry q => hr a b pins s2 σ H2 x y v u Q I2 rx ry q (hs _ _))

noncomputable def rIxL (K : PySem.W.Frag) : R2 := fun x y H Q => ∃ p xs i v, x = .ref p ∧ y = .int i ∧ SqL K H p xs ∧ atI xs i = some v ∧ Q v H
noncomputable def rIxT (K : PySem.W.Frag) : R2 := fun x y H Q => ∃ p xs i v, x = .ref p ∧ y = .int i ∧ SqT K H p xs ∧ atI xs i = some v ∧ Q v H
noncomputable def rIxS : R2 := fun x y H Q => ∃ z i c, x = .str z ∧ y = .int i ∧ z.length ≤ sizeLine ∧ atI z.cps.toList i = some c ∧ Q (.str ⟨#[c]⟩) H
theorem ix_list : IxR X (rIxL X.K) := by
  intro value slice pins s σ H x y v u Q I rx ry h hs
  obtain ⟨p, xs, i, z, rfl, rfl, hq, he, q⟩ := h
  cases rx
  obtain ⟨t, rfl⟩ := ry
  obtain ⟨its, r, pl, hz⟩ := I.list hq
  obtain ⟨j, h1, h2, h3, h4, h5⟩ := atI_get he
  obtain ⟨w, ew, rw'⟩ := r.get h2
  have hl := r.length
  have hn := line63
  have fin : EP X pins σ Q w s := ⟨z, H, I, rw', q⟩
  by_cases h0 : 0 ≤ i
  · have hj : i.toNat = j := by
      rw [seqIndex_of h0 h5] at h1
      exact Option.some.inj h1
    exact item_listR pl.isList h0 (by omega) (by rw [hj]; simpa using ew) fin hs
  · have hj : (i + (its.toArray.size : Int)).toNat = j := by
      rw [seqIndex_neg (by omega) h4] at h1
      rw [List.size_toArray, ← hl]
      exact Option.some.inj h1
    exact subscriptTail_builtinR (x := w) pl.isList.typeIs slot_list_getitem.lookup
      (wpAny_getItem_list_neg (Q := fun r s' => r = w ∧ EP X pins σ Q r s') pl.isList (by omega) (by rw [List.size_toArray] <;> omega) (by omega) (by rw [hj]; simpa using ew) ⟨rfl, fin⟩) hs
theorem ix_tup : IxR X (rIxT X.K) := by
  intro value slice pins s σ H x y v u Q I rx ry h hs
  obtain ⟨p, xs, i, z, rfl, rfl, hq, he, q⟩ := h
  cases rx
  obtain ⟨t, rfl⟩ := ry
  obtain ⟨its, r, pl, hz⟩ := I.tuple hq
  obtain ⟨j, h1, h2, h3, h4, h5⟩ := atI_get he
  obtain ⟨w, ew, rw'⟩ := r.get h2
  have hl := r.length
  have hn := line63
  have fin : EP X pins σ Q w s := ⟨z, H, I, rw', q⟩
  exact subscriptTail_builtinR (x := w) pl.typeIs slot_tuple_getitem.lookup
    (getItem_tuple (j := j) (Q := fun r s' => r = w ∧ EP X pins σ Q r s') pl (by omega) (by omega) (by rw [List.size_toArray, ← hl]; exact h1) (by simpa using ew) ⟨rfl, fin⟩) hs
theorem ix_str : IxR X rIxS := by
  intro value slice pins s σ H x y v u Q I rx ry h hs
  obtain ⟨z, i, c, rfl, rfl, hz, he, q⟩ := h
  obtain ⟨t, rfl⟩ := rx
  obtain ⟨t', rfl⟩ := ry
  obtain ⟨j, h1, h2, h3, h4, h5⟩ := atI_get he
  have hl : z.cps.toList.length = z.length := by simp [Str.length]
  rw [hl] at h1 h4 h5
  have hn := line63
  exact tail_any (typeIs_str s z t) slot_str_getitem.lookup (getItem_str (c := c) (by
    have e1 : decide (i < -(2 ^ 63 : Int)) = false := decide_eq_false (by omega)
    have e2 : decide (i ≥ 2 ^ 63) = false := decide_eq_false (by omega)
    rw [e1, e2, Bool.or_false]) (by rw [h1]; simpa using h2) ⟨.str ⟨#[c]⟩, H, I.tok _, ⟨_, rfl⟩, q⟩) hs

theorem mapSeq_set (its : List Value) (n j : Nat) (u : Value) : Obj.mapSeq (·.setIfInBounds j u) { cls := .type "list", data := .seq its.toArray n } = { cls := .type "list", data := .seq (its.set j u).toArray n } := by
  simp [Obj.mapSeq]
theorem Inv.lst {pins : List (Addr × Obj)} {σ : St} {H : Hp} {s : Shared} {p : Addr} {xs : List V} (I : Inv X pins σ H s) (h : H p = some (.lst xs)) :
    ∃ (its : List Value) (n : Nat), Vals xs its ∧ s.heap.get? p = some { cls := .type "list", data := .seq its.toArray n } ∧ xs.length ≤ sizeLine := by
  obtain ⟨z, its, n, r, e⟩ := I.hok p _ h
  exact ⟨its, n, r, e, z⟩
theorem Inv.lstUpd {pins : List (Addr × Obj)} {σ : St} {H : Hp} {s : Shared} {p : Addr} {xs ys : List V} {its its' : List Value} {n n' : Nat} {f : Obj → Obj} (I : Inv X pins σ H s) (h : H p = some (.lst xs))
    (ho : s.heap.get? p = some { cls := .type "list", data := .seq its.toArray n }) (hf : f { cls := .type "list", data := .seq its.toArray n } = { cls := .type "list", data := .seq its'.toArray n' }) (r : Vals ys its') (hz : ys.length ≤ sizeLine) (t : Nat) :
    Inv X pins σ (upd H p (.lst ys)) { s with heap := s.heap.update p f, toks := t } := by
  have e : (s.heap.update p f).get? p = some { cls := .type "list", data := .seq its'.toArray n' } := by
    rw [Heap.get?_update_self f ho (by rw [hf] <;> rfl), hf]
  refine I.write (x := p) (e := p) (by rw [h]; trivial) (.inl rfl) (fun b u hb q => (Heap.get?_update_other _ _ (Ne.symm hb)).trans q) ⟨_, e⟩ ?_
  exact ⟨hz, its', n', r, e⟩
noncomputable def rSetL : V → V → V → Hp → (Hp → Prop) → Prop := fun o i v H Q => ∃ p xs k j, o = .ref p ∧ i = .int k ∧ H p = some (.lst xs) ∧ ixN xs.length k = some j ∧ Q (upd H p (.lst (xs.set j v)))
theorem set_list : PSet X rSetL := by
  intro pins s σ H o i v ov iv u Q I ro ri rv h
  obtain ⟨p, xs, k, j, rfl, rfl, hp, hj, q⟩ := h
  cases ro
  obtain ⟨t, rfl⟩ := ri
  obtain ⟨its, n, r, ho, hz⟩ := I.lst hp
  obtain ⟨h1, h2, h3, h4⟩ := ixN_seq hj
  have hl := r.length
  have hn := line63
  have I' : Inv X pins σ (upd H p (.lst (xs.set j v))) { s with heap := s.heap.update p (Obj.mapSeq (·.setIfInBounds j u)) } :=
    I.lstUpd hp ho (mapSeq_set its n j u) (r.set rv j) (by rw [List.length_set]; exact hz) s.toks
  by_cases h0 : 0 ≤ k
  · have hk : k.toNat = j := by
      rw [seqIndex_of h0 h4] at h1
      exact Option.some.inj h1
    exact PySem.W.ki_setAt ho h0 (by omega) (by rw [List.size_toArray, ← hl]; exact h4) (by rw [hk]; exact ⟨_, I', q⟩)
  · have hk : (k + (its.toArray.size : Int)).toNat = j := by
      rw [seqIndex_neg (by omega) h3] at h1
      rw [List.size_toArray, ← hl]
      exact Option.some.inj h1
    exact PySem.W.ki_setBack ho (by omega) (by rw [List.size_toArray, ← hl]; exact h3) (by omega) (by rw [hk]; exact ⟨_, I', q⟩)

theorem sl_bd (i : Int) (n : Nat) : max 0 (min (if i < 0 then i + (n : Int) else i) (n : Int)) = (((if i < 0 then (i + (n : Int)).toNat else min i.toNat n) : Nat) : Int) := by
  by_cases h : i < 0
  · rw [if_pos h, if_pos h, Int.min_eq_left (by omega)]
    omega
  · obtain ⟨k, rfl⟩ := Int.eq_ofNat_of_zero_le (Int.not_lt.mp h)
    rw [if_neg h, if_neg h, Int.toNat_natCast]
    omega
theorem slice_bounds (lo hi : Option Int) (n : Nat) : (sliceBounds lo hi none n).1 = ((HT.sIx n 0 lo : Nat) : Int) ∧ (sliceBounds lo hi none n).2.1 = ((HT.sIx n n hi : Nat) : Int) ∧ (sliceBounds lo hi none n).2.2 = 1 := by
  refine ⟨?_, ?_, rfl⟩
  · cases lo with
    | none => simp [sliceBounds, HT.sIx]
    | some i =>
      simp only [sliceBounds, HT.sIx, Option.getD_none, show (1 : Int) > 0 by decide, if_true]
      exact sl_bd i n
  · cases hi with
    | none => simp [sliceBounds, HT.sIx]
    | some i =>
      simp only [sliceBounds, HT.sIx, Option.getD_none, show (1 : Int) > 0 by decide, if_true]
      exact sl_bd i n
theorem slicePick_cut (its : List Value) (lo hi : Option Int) : slicePick its.toArray lo hi none = ((its.drop (HT.sIx its.length 0 lo)).take (HT.sIx its.length its.length hi - HT.sIx its.length 0 lo)).toArray := by
  obtain ⟨h1, h2, h3⟩ := slice_bounds lo hi its.toArray.size
  unfold slicePick
  rw [h1, h2, h3]
  simp only [sliceRange_one, pick_run, List.size_toArray] <;> rfl
noncomputable def rSlL (K : PySem.W.Frag) : V → Option Int → Option Int → Hp → VK → Prop := fun x lo hi H Q => ∃ a xs, x = .ref a ∧ SqL K H a xs ∧ ∀ p, H p = none → Q (.ref p) (upd H p (.lst (cutV xs lo hi)))
theorem sl_list : SlR X (rSlL X.K) := by
  intro pins s σ H x v vl vu lo hi sl Q I rx hs pl pu h
  obtain ⟨a, xs, rfl, hx, q⟩ := h
  cases rx
  obtain ⟨its, r, ht, hz⟩ := I.list hx
  have hlen := r.length
  refine ⟨"list", _, slot_list_getitem.lookup, ht.isList.typeIs, ?_⟩
  refine wpAny_getItem_list_slice ht.isList hs pl pu .none (by simp) ?_ (by rw [List.size_toArray] <;> omega)
  rw [slicePick_cut, ← hlen]
  refine ⟨.ref s.heap.objs.size, _, I.laid (t' := s.toks) (o := .lst (cutV xs lo hi)) (fun b ob q => Heap.get?_push_of_some _ q) (Nat.le_refl _) ?_, rfl, q _ (I.hok.fresh (Nat.le_refl _))⟩
  exact ⟨Nat.le_trans (cutV_length xs lo hi) hz, _, 0, (r.drop (HT.sIx xs.length 0 lo)).take (HT.sIx xs.length xs.length hi - HT.sIx xs.length 0 lo), Heap.get?_push_size _ rfl⟩

noncomputable def flatV : V → Bool
  | .non => true
  | .bl _ => true
  | .int _ => true
  | .str _ => true
  | _ => false
noncomputable def eqV : V → V → Bool
  | .non, .non => true
  | .bl a, .bl b => a == b
  | .bl a, .int b => (if a then 1 else 0) == b
  | .int a, .bl b => a == (if b then 1 else 0)
  | .int a, .int b => a == b
  | .str a, .str b => a == b
  | _, _ => false
theorem eqAt_V {A : Around} {s : Shared} {y x : V} {u v : Value} (ry : RelV y u) (rx : RelV x v) (fy : flatV y = true) (fx : flatV x = true) : SeqAt.EqAt A s u v (eqV y x) := by
  cases y with
  | non =>
    cases ry
    cases x with
    | non => cases rx; exact SeqAt.EqAt.same _
    | bl b => cases rx; exact SeqAt.EqAt.none_bool b
    | int b => obtain ⟨t, rfl⟩ := rx; exact SeqAt.EqAt.none_int b t
    | str b => obtain ⟨t, rfl⟩ := rx; exact SeqAt.EqAt.none_str b t
    | _ => exact absurd (show false = true from fx) Bool.false_ne_true
  | bl a =>
    cases ry
    cases x with
    | non => cases rx; exact SeqAt.EqAt.bool_none a
    | bl b => cases rx; exact SeqAt.EqAt.bool_bool a b
    | int b => obtain ⟨t, rfl⟩ := rx; exact SeqAt.EqAt.bool_int a b t
    | str b => obtain ⟨t, rfl⟩ := rx; exact SeqAt.EqAt.bool_str a b t
    | _ => exact absurd (show false = true from fx) Bool.false_ne_true
  | int a =>
    obtain ⟨t', rfl⟩ := ry
    cases x with
    | non => cases rx; exact SeqAt.EqAt.int_none a t'
    | bl b => cases rx; exact SeqAt.EqAt.int_bool a t' b
    | int b => obtain ⟨t, rfl⟩ := rx; exact SeqAt.EqAt.int_int a t' b t
    | str b => obtain ⟨t, rfl⟩ := rx; exact SeqAt.EqAt.int_str a t' b t
    | _ => exact absurd (show false = true from fx) Bool.false_ne_true
  | str a =>
    obtain ⟨t', rfl⟩ := ry
    cases x with
    | non => cases rx; exact SeqAt.EqAt.str_none a t'
    | bl b => cases rx; exact SeqAt.EqAt.str_bool a t' b
    | int b => obtain ⟨t, rfl⟩ := rx; exact SeqAt.EqAt.str_int a t' b t
    | str b => obtain ⟨t, rfl⟩ := rx; exact SeqAt.EqAt.str_str a t' b t
    | _ => exact absurd (show false = true from fx) Bool.false_ne_true
  | _ => exact absurd (show false = true from fy) Bool.false_ne_true
noncomputable def eqU (x : V) (u : Value) : Bool := match u with
  | .none => eqV .non x
  | .bool b => eqV (.bl b) x
  | .int i _ => eqV (.int i) x
  | .str z _ => eqV (.str z) x
  | _ => false
theorem eqU_of {x y : V} {u : Value} (r : RelV y u) (f : flatV y = true) : eqU x u = eqV y x := by
  cases y with
  | non => cases r; rfl
  | bl b => cases r; rfl
  | int i => obtain ⟨t, rfl⟩ := r; rfl
  | str z => obtain ⟨t, rfl⟩ := r; rfl
  | _ => exact absurd (show false = true from f) Bool.false_ne_true
theorem any_eqU {x : V} : ∀ {xs : List V} {us : List Value}, Vals xs us → xs.all flatV = true → us.any (eqU x) = xs.any fun y => eqV y x
  | _, _, .nil, _ => rfl
  | y :: xs, u :: us, .cons r t, f => by
    rw [List.all_cons, Bool.and_eq_true] at f
    rw [List.any_cons, List.any_cons, eqU_of r f.1, any_eqU t f.2]
theorem mem_eqAt {A : Around} {s : Shared} {x : V} {v : Value} (rx : RelV x v) (fx : flatV x = true) : ∀ {xs : List V} {us : List Value}, Vals xs us → xs.all flatV = true → ∀ u ∈ us, SeqAt.EqAt A s u v (eqU x u)
  | _, _, .nil, _ => fun u hu => by cases hu
  | y :: xs, u :: us, .cons r t, f => fun u' hu => by
    rw [List.all_cons, Bool.and_eq_true] at f
    rcases List.mem_cons.mp hu with rfl | hu
    · rw [eqU_of r f.1]; exact eqAt_V r rx f.1 fx
    · exact mem_eqAt rx fx t f.2 u' hu
noncomputable def inV (x : V) (xs : List V) : Bool := xs.any fun y => eqV y x
noncomputable def rIn (K : PySem.W.Frag) (neg : Bool) : R2 := fun x y H Q => ∃ p xs, y = .ref p ∧ (SqL K H p xs ∨ SqT K H p xs) ∧ flatV x = true ∧ xs.all flatV = true ∧ Q (.bl (if neg then !inV x xs else inV x xs)) H
theorem op_in_seq : OpR X (compareOp .In) (rIn X.K false) := by
  intro pins s σ H x y v u Q I rx ry h
  obtain ⟨p, xs, rfl, hq, fx, fs, q⟩ := h
  cases ry
  rcases hq with hq | hq
  · obtain ⟨its, r, pl, hz⟩ := I.list hq
    refine SeqAt.in_listAt (eqU x) pl.isList (fun w hw => mem_eqAt rx fx r fs w (by simpa using hw)) ⟨.bl _, H, I, rfl, ?_⟩
    rw [show its.toArray.any (eqU x) = its.any (eqU x) by simp, any_eqU r fs]
    exact q
  · obtain ⟨its, r, pl, hz⟩ := I.tuple hq
    refine SeqAt.in_tupleAt (eqU x) pl (fun w hw => mem_eqAt rx fx r fs w (by simpa using hw)) ⟨.bl _, H, I, rfl, ?_⟩
    rw [show its.toArray.any (eqU x) = its.any (eqU x) by simp, any_eqU r fs]
    exact q
theorem op_notIn_seq : OpR X (compareOp .NotIn) (rIn X.K true) := by
  intro pins s σ H x y v u Q I rx ry h
  obtain ⟨p, xs, rfl, hq, fx, fs, q⟩ := h
  cases ry
  rcases hq with hq | hq
  · obtain ⟨its, r, pl, hz⟩ := I.list hq
    refine SeqAt.notIn_listAt (eqU x) pl.isList (fun w hw => mem_eqAt rx fx r fs w (by simpa using hw)) ⟨.bl _, H, I, rfl, ?_⟩
    rw [show its.toArray.any (eqU x) = its.any (eqU x) by simp, any_eqU r fs]
    exact q
  · obtain ⟨its, r, pl, hz⟩ := I.tuple hq
    refine SeqAt.notIn_tupleAt (eqU x) pl (fun w hw => mem_eqAt rx fx r fs w (by simpa using hw)) ⟨.bl _, H, I, rfl, ?_⟩
    rw [show its.toArray.any (eqU x) = its.any (eqU x) by simp, any_eqU r fs]
    exact q

theorem call_len_seq : CallR X (.builtin "len") (fun xs H Q => ∃ p ys, xs = [.ref p] ∧ (SqL X.K H p ys ∨ SqT X.K H p ys) ∧ Q (.int ys.length) H) := by
  intro pins s σ H xs us Q I r h
  obtain ⟨p, ys, rfl, hq, q⟩ := h
  obtain ⟨u, rfl, rx⟩ := vals1 r
  cases rx
  have hn := line63
  rcases hq with hq | hq
  · obtain ⟨its, r', pl, hz⟩ := I.list hq
    have hlen := r'.length
    exact Calls.call_len_list pl.isList (by simp only [List.size_toArray] <;> omega) ⟨.int ys.length, H, I.tok _, ⟨s.toks + 1, by rw [List.size_toArray, hlen]⟩, q⟩
  · obtain ⟨its, r', pl, hz⟩ := I.tuple hq
    have hlen := r'.length
    exact len_tuple pl (by simp only [List.size_toArray] <;> omega) ⟨.int ys.length, H, I.tok _, ⟨s.toks + 1, by rw [List.size_toArray, hlen]⟩, q⟩
theorem call_len_str : CallR X (.builtin "len") (fun xs H Q => ∃ z, xs = [.str z] ∧ z.length ≤ sizeLine ∧ Q (.int z.length) H) := by
  intro pins s σ H xs us Q I r h
  obtain ⟨z, rfl, hz, q⟩ := h
  obtain ⟨u, rfl, t, rfl⟩ := vals1 r
  have hn := line63
  exact len_str (by omega) ⟨.int z.length, H, I.tok _, ⟨_, rfl⟩, q⟩
theorem call_list_of : CallR X (.type "list") (fun xs H Q => ∃ p ys, xs = [.ref p] ∧ (SqL X.K H p ys ∨ SqT X.K H p ys) ∧ ∀ l, H l = none → Q (.ref l) (upd H l (.lst ys))) := by
  intro pins s σ H xs us Q I r h
  obtain ⟨p, ys, rfl, hq, q⟩ := h
  obtain ⟨u, rfl, rx⟩ := vals1 r
  cases rx
  have fin : ∀ (its : List Value), Vals ys its → ys.length ≤ sizeLine → ∀ (h' : Heap) (c' : Nat), (∀ b o', s.heap.get? b = some o' → h'.get? b = some o') →
      h'.get? s.heap.objs.size = some { cls := .type "list", dict := none, data := .seq its.toArray c', slots := #[] } → EP X pins σ Q (.ref s.heap.objs.size) { s with heap := h' } := fun its r' hz h' c' kp e =>
    ⟨.ref s.heap.objs.size, _, I.laid (t' := s.toks) kp (Nat.le_refl _) (show ObjOk X.prog X.w _ h' _ (.lst ys) from ⟨hz, its, c', r', e⟩), rfl, q _ (I.hok.fresh (Nat.le_refl _))⟩
  rcases hq with hq | hq
  · obtain ⟨its, r', pl, hz⟩ := I.list hq
    have hlen := r'.length
    obtain ⟨o, ho, hc, n, hd⟩ := pl.isList
    exact call_list_seq p (.inl rfl) ho hc hd (fun h' c' kp e => fin its r' hz h' c' kp e) (by simp only [List.size_toArray] <;> omega)
  · obtain ⟨its, r', pl, hz⟩ := I.tuple hq
    have hlen := r'.length
    obtain ⟨o, ho, hc, n, hd⟩ := pl
    exact call_list_seq p (.inr rfl) ho hc hd (fun h' c' kp e => fin its r' hz h' c' kp e) (by simp only [List.size_toArray] <;> omega)
theorem call_tuple_of : CallR X (.type "tuple") (fun xs H Q => ∃ p ys, xs = [.ref p] ∧ ((SqL X.K H p ys ∧ ∀ l, H l = none → Q (.ref l) (upd H l (.tup ys))) ∨ (SqT X.K H p ys ∧ Q (.ref p) H))) := by
  intro pins s σ H xs us Q I r h
  obtain ⟨p, ys, rfl, h⟩ := h
  obtain ⟨u, rfl, rx⟩ := vals1 r
  cases rx
  rcases h with ⟨hq, q⟩ | ⟨hq, q⟩
  · obtain ⟨its, r', pl, hz⟩ := I.list hq
    have hlen := r'.length
    refine call_tuple_list pl.isList (fun h' kp => ?_) (by simp only [List.size_toArray] <;> omega)
    have I1 : Inv X pins σ H { s with heap := h' } := I.kept (t' := s.toks) kp
    have I2 : Inv X pins σ (upd H h'.objs.size (.tup ys)) { s with heap := h'.push { cls := .type "tuple", data := .seq its.toArray } } :=
      I1.laid (t' := s.toks) (fun b o e => Heap.get?_push_of_some _ e) (Nat.le_refl _) (show ObjOk X.prog X.w _ _ _ (.tup ys) from ⟨hz, its, r', IsTup.new _ _⟩)
    exact ⟨.ref h'.objs.size, _, I2, rfl, q _ (I1.hok.fresh (Nat.le_refl _))⟩
  · obtain ⟨its, r', pl, hz⟩ := I.tuple hq
    exact call_tuple_same pl ⟨.ref p, H, I, rfl, q⟩

noncomputable def tyV (K : PySem.W.Frag) (T : String) (x : V) (H : Hp) : Prop := match x with
  | .str _ => T = "str"
  | .int _ => T = "int"
  | .ref p => (T = "list" ∧ ∃ xs, SqL K H p xs) ∨ (T = "tuple" ∧ ∃ o, K.lookup p = some o ∧ o.cls = .type "tuple" ∧ o.dict = none) ∨
      (T = "dict" ∧ ((∃ kvs, H p = some (.dK kvs)) ∨ ∃ kvs, H p = some (.dT kvs))) ∨ (T = "set" ∧ ∃ S n, H p = some (.set S n))
  | _ => False
theorem tyV_is {pins : List (Addr × Obj)} {σ : St} {H : Hp} {s : Shared} {T : String} {x : V} {v : Value} (I : Inv X pins σ H s) (r : RelV x v) (ty : tyV X.K T x H) :
    s.TypeIs v T ∧ ∀ a, v = .ref a → ∃ ob, s.heap.get? a = some ob ∧ ob.dict = none := by
  cases x with
  | str z =>
    obtain ⟨t, rfl⟩ := r
    cases (show T = "str" from ty)
    exact ⟨typeIs_str s z t, fun _ e => nomatch e⟩
  | int i =>
    obtain ⟨t, rfl⟩ := r
    cases (show T = "int" from ty)
    exact ⟨typeIs_int s i t, fun _ e => nomatch e⟩
  | ref p =>
    cases r
    rcases ty with ⟨rfl, xs, hq⟩ | ⟨rfl, o, hk, hc, hd⟩ | ⟨rfl, hk⟩ | ⟨rfl, S, n, hk⟩
    · obtain ⟨its, _, pl, _⟩ := I.list hq
      refine ⟨pl.isList.typeIs, fun a e => ?_⟩
      cases e
      obtain ⟨o, n, e, c, hd, _⟩ := pl
      exact ⟨o, e, hd⟩
    · refine ⟨⟨o, I.kIn p o hk, hc⟩, fun a e => ?_⟩
      cases e
      exact ⟨o, I.kIn _ o hk, hd⟩
    · have z : ∃ o, s.heap.get? p = some o ∧ o.ExactDict := by
        rcases hk with ⟨kvs, hk⟩ | ⟨kvs, hk⟩
        · obtain ⟨_, _, _, _, o, _, _, e, ex, _⟩ := I.hok p _ hk
          exact ⟨o, e, ex⟩
        · obtain ⟨_, _, _, _, o, _, _, e, ex, _⟩ := I.hok p _ hk
          exact ⟨o, e, ex⟩
      obtain ⟨o, e, ex⟩ := z
      refine ⟨⟨o, e, ex.1⟩, fun a e2 => ?_⟩
      cases e2
      exact ⟨o, e, ex.2.1⟩
    · obtain ⟨o, _, _, _, e, ex, _⟩ := I.hok p _ hk
      refine ⟨⟨o, e, ex.1⟩, fun a e2 => ?_⟩
      cases e2
      exact ⟨o, e, ex.2.1⟩
  | _ => exact False.elim ty
noncomputable def tBM (K : PySem.W.Frag) (T : String) (r : V → List V → Hp → VK → Prop) (to : TE) (t : TA) : TE := fun σ H Q => to σ H fun x H1 => tyV K T x H1 ∧ t σ H1 fun xs H2 => r x xs H2 Q
variable {o e : Expr} {es : List Expr} {to : TE} {t : TA} {name : Str} {apos cpos : Pos} {T id : String} {r : V → List V → Hp → VK → Prop}
theorem pe_bm (pa : PlainAttrs T) (slot : Slot T name id) (hty : typeOf (.builtin id) = pure (.type "method_descriptor")) (hm : MtR X id r) (ho : PE X o to) (ha : PA X (e :: es) t)
    (hbase : attributeBase o name X.env (eval o X.env) = eval o X.env := by rfl)
    (hfew : ((backTo cpos (starEach (e :: es) X.env)).all (fun x => !x.1) && (backToKw cpos (keywordEach [] X.env)).all (fun x => x.1.isSome)
      && decide ((e :: es).length + ([] : List Keyword).length + (if ([] : List Keyword).isEmpty then 0 else 1) < 30)) = true := by rfl)
    (hline : (apos.endLine == cpos.line) = true := by rfl) (hs : starEach (e :: es) X.env = (false, eval e X.env) :: starEach es X.env := by rfl) (hplain : (backTo cpos (starEach es X.env)).any (·.1) = false := by rfl) :
    PE X (.Call (.Attribute o name apos) (e :: es) [] cpos) (tBM X.K T r to t) := by
  intro pins s σ H Q I h
  refine wpAny_Call_method_late hbase hfew hline rfl (thn (ho pins s σ H _ I h) fun v s1 ⟨x, H1, I1, r1, ty, q1⟩ => ?_)
  obtain ⟨h1, h2⟩ := tyV_is I1 r1 ty
  refine ⟨T, id, pa, slot, hty, h1, h2, ?_⟩
  have hA := ha cpos pins s1 σ H1 _ I1 q1
  rw [hs] at hA ⊢
  refine Calls.callWith_builtin (by show (false || (backTo cpos (starEach es X.env)).any (·.1)) = false; rw [hplain] <;> rfl) (Calls.evalArgs_plain ?_)
  exact thn hA fun us s2 ⟨vs, H2, I2, r2, q2⟩ => hm pins s2 σ H2 x vs v us Q I2 r1 r2 q2
end
end L2

namespace L2
open PySem PySem.Spec PyProof.Rows

noncomputable def MtM (X : Cx) (id : String) (r : V → List V → Hp → VK → Prop) : Prop :=
  ∀ (pins : List (Addr × Obj)) (s : Shared) (σ : St) (H : Hp) (x : V) (xs : List V) (v : Value) (us : List Value) (Q : VK), Inv X pins σ H s → RelV x v → Vals xs us → r x xs H Q →
    wpAny (model X.prog X.w) X.A (call (.builtin id) (v :: us)) (EP X pins σ Q) X.xe s

theorem Vals.one : ∀ {x : V} {us : List Value}, Vals [x] us → ∃ u, us = [u] ∧ RelV x u
  | _, _, .cons r .nil => ⟨_, rfl, r⟩
theorem Vals.eraseIdx : ∀ {xs : List V} {us : List Value} (i : Nat), Vals xs us → Vals (xs.eraseIdx i) (us.eraseIdx i)
  | _, _, _, .nil => .nil
  | _, _, 0, .cons _ t => t
  | _, _, i + 1, .cons r t => .cons r (Vals.eraseIdx i t)
theorem len_erase {α : Type} : ∀ (l : List α) (i : Nat), (l.eraseIdx i).length ≤ l.length
  | [], _ => Nat.le_refl _
  | _ :: _, 0 => Nat.le_succ _
  | _ :: r, i + 1 => Nat.succ_le_succ (len_erase r i)

section
variable {X : Cx} {pins : List (Addr × Obj)} {σ : St} {H : Hp} {s : Shared} {l b : Addr} {xs ys zs : List V}

theorem Inv.lset {its its' : List Value} {n : Nat} {f : Array Value → Array Value} {t' : Nat} (I : Inv X pins σ H s) (hH : H l = some (.lst xs))
    (e : s.heap.get? l = some { cls := .type "list", data := .seq its.toArray n }) (hf : f its.toArray = its'.toArray) (hv : Vals ys its') (hz : ys.length ≤ sizeLine) :
    Inv X pins σ (upd H l (.lst ys)) { s with heap := s.heap.update l (Obj.mapSeq f), toks := t' } := by
  have q := PySem.IsL.update e f
  rw [hf] at q
  refine I.write (x := l) (e := l) (by rw [hH]; exact trivial) (.inl rfl) (fun b' u hb hu => (Heap.get?_update_other s.heap (Obj.mapSeq f) (Ne.symm hb)).trans hu) ⟨_, q⟩ ?_
  exact ⟨hz, its', _, hv, q⟩
theorem Inv.lnew {its : List Value} {t' : Nat} (I : Inv X pins σ H s) (hv : Vals ys its) (hz : ys.length ≤ sizeLine) :
    Inv X pins σ (upd H s.heap.objs.size (.lst ys)) { s with heap := s.heap.push { cls := .type "list", data := .seq its.toArray }, toks := t' } :=
  I.laid (fun _ _ q => Heap.get?_push_of_some _ q) (Nat.le_refl _) ⟨hz, its, 0, hv, Heap.get?_push_size _ rfl⟩
theorem Inv.fresh (I : Inv X pins σ H s) : H s.heap.objs.size = none := I.hok.fresh (Nat.le_refl _)
theorem Inv.lstM (I : Inv X pins σ H s) (hH : H l = some (.lst xs)) : xs.length ≤ sizeLine ∧ ∃ (its : List Value) (n : Nat), Vals xs its ∧ xs.length = its.length ∧ s.heap.get? l = some { cls := .type "list", data := .seq its.toArray n } := by
  obtain ⟨z, its, n, r, e⟩ := I.hok l _ hH
  exact ⟨z, its, n, r, r.length, e⟩

end

section
variable {X : Cx}

noncomputable def rAppend : V → List V → Hp → VK → Prop := fun x vs H Q => ∃ l xs y, x = .ref l ∧ vs = [y] ∧ H l = some (.lst xs) ∧ xs.length < sizeLine ∧ Q .non (upd H l (.lst (xs ++ [y])))
theorem mt_append : MtM X "list.append" rAppend := by
  intro pins s σ H x vs v us Q I rx rv h
  obtain ⟨l, xs, y, rfl, rfl, hH, hz, q⟩ := h
  cases rx
  obtain ⟨u, rfl, ru⟩ := rv.one
  obtain ⟨z, its, n, r, hl, e⟩ := I.lstM hH
  refine call_meets F.slot_list_append ⟨_, e, rfl⟩ F.entry_list_append (F.args_list_append_2 _ _) (PySem.list_append l its.toArray n u (by rw [List.size_toArray]; omega)) ⟨e, ?_⟩
  refine ⟨.non, _, I.lset (its' := its ++ [u]) hH e (by simp) (r.append (.cons ru .nil)) ?_, rfl, q⟩
  rw [List.length_append, List.length_singleton]
  omega



noncomputable def rPopAt : V → List V → Hp → VK → Prop := fun x vs H Q => ∃ l xs i k y, x = .ref l ∧ vs = [.int i] ∧ H l = some (.lst xs) ∧ -(2 ^ 63) ≤ i ∧ i < 2 ^ 63 ∧ seqIndex? i xs.length = some k ∧ xs[k]? = some y ∧ Q y (upd H l (.lst (xs.eraseIdx k)))
theorem mt_popAt : MtM X "list.pop" rPopAt := by
  intro pins s σ H x vs v us Q I rx rv h
  obtain ⟨l, xs, i, k, y, rfl, rfl, hH, h1, h2, hk, hy, q⟩ := h
  cases rx
  obtain ⟨u, rfl, ru⟩ := rv.one
  obtain ⟨t, rfl⟩ := ru
  obtain ⟨z, its, n, r, hl, e⟩ := I.lstM hH
  obtain ⟨w, hw, rw'⟩ := r.get hy
  refine call_meets F.slot_list_pop ⟨_, e, rfl⟩ F.entry_list_pop (F.args_list_pop_2 _ _)
    (MeetsSeq.list_pop_at l its.toArray n i t k w (fitsIndex_both h1 h2) (by rw [List.size_toArray, ← hl]; exact hk) (by rw [← Array.getElem?_toList]; exact hw) (by rw [List.size_toArray]; omega)) ⟨e, ?_⟩
  refine ⟨y, _, I.lset (its' := its.eraseIdx k) hH e ?_ (r.eraseIdx k) ?_, rw', q⟩
  · show its.toArray.eraseIdxIfInBounds k = (its.eraseIdx k).toArray
    rw [List.eraseIdxIfInBounds_toArray]
  · have := len_erase xs k
    omega



noncomputable def rCat : R2 := fun x y H Q => ∃ l b xs zs, x = .ref l ∧ y = .ref b ∧ H l = some (.lst xs) ∧ H b = some (.lst zs) ∧ xs.length + zs.length ≤ sizeLine ∧ ∀ p, H p = none → Q (.ref p) (upd H p (.lst (xs ++ zs)))
theorem op_cat : OpR X (binaryOp .Add) rCat := by
  intro pins s σ H x y v u Q I rx ry h
  obtain ⟨l, b, xs, zs, rfl, rfl, hH, hB, hz, q⟩ := h
  cases rx
  cases ry
  obtain ⟨z, its, n, r, hl, e⟩ := I.lstM hH
  obtain ⟨z2, its2, n2, r2, hl2, e2⟩ := I.lstM hB
  refine PySem.P.add_list e e2 ?_ (by rw [List.size_toArray, List.size_toArray]; omega)
  have ea : its.toArray ++ its2.toArray = (its ++ its2).toArray := by simp
  rw [ea]
  exact ⟨.ref _, _, I.lnew (t' := s.toks) (r.append r2) (by rw [List.length_append]; omega), rfl, q _ I.fresh⟩

end

section
variable {prog : Program} {w : World} {A : Around} {E : Value → Shared → Prop} {s : Shared}
end

section
variable {X : Cx}
end
end L2

namespace L2
open PySem PySem.Spec PyProof.Rows

section
variable {κ : Type} [DecidableEq κ]
noncomputable def valV (kvs : List (κ × V)) (k : κ) : Option V := (kvs.find? fun kv => decide (kv.1 = k)).map (·.2)
noncomputable def putK (kvs : List (κ × V)) (k : κ) (v : V) : List (κ × V) :=
  if (kvs.any fun kv => decide (kv.1 = k)) = true then kvs.map (fun kv => if kv.1 = k then (kv.1, v) else kv) else kvs ++ [(k, v)]

theorem valV_pos {p : κ × V} {r : List (κ × V)} {k : κ} (e : p.1 = k) : valV (p :: r) k = some p.2 := by simp [valV, List.find?_cons, e]
theorem valV_neg {p : κ × V} {r : List (κ × V)} {k : κ} (e : ¬ p.1 = k) : valV (p :: r) k = valV r k := by simp [valV, List.find?_cons, e]
theorem valV_any (k : κ) : ∀ kvs : List (κ × V), (kvs.any fun kv => decide (kv.1 = k)) = (valV kvs k).isSome
  | [] => rfl
  | p :: r => by
    rw [List.any_cons]
    by_cases e : p.1 = k
    · simp only [valV_pos e, decide_eq_true e, Bool.true_or, Option.isSome_some]
    · rw [valV_neg e, decide_eq_false e, Bool.false_or]; exact valV_any k r
theorem valV_map (k j : κ) (y : V) : ∀ kvs : List (κ × V), valV (kvs.map fun kv => if kv.1 = k then (kv.1, y) else kv) j = (valV kvs j).map fun x => if j = k then y else x
  | [] => rfl
  | p :: r => by
    have ih := valV_map k j y r
    rw [List.map_cons]
    by_cases h : p.1 = k
    · rw [if_pos h]
      by_cases e : p.1 = j
      · rw [valV_pos (p := (p.1, y)) e, valV_pos e, Option.map_some, if_pos (e.symm.trans h)]
      · rw [valV_neg (p := (p.1, y)) e, valV_neg e, ih]
    · rw [if_neg h]
      by_cases e : p.1 = j
      · rw [valV_pos (p := p) e, valV_pos e, Option.map_some, if_neg (fun z => h (e.trans z))]
      · rw [valV_neg (p := p) e, valV_neg e, ih]
theorem valV_snoc (k j : κ) (y : V) : ∀ kvs : List (κ × V), valV kvs k = none → valV (kvs ++ [(k, y)]) j = if j = k then some y else valV kvs j
  | [], _ => by
    by_cases e : k = j
    · rw [if_pos e.symm]; exact valV_pos (p := (k, y)) e
    · rw [if_neg (fun z => e z.symm)]; exact valV_neg (p := (k, y)) e
  | p :: r, hn => by
    rw [List.cons_append]
    have hk : ¬ p.1 = k := fun z => by rw [valV_pos z] at hn; cases hn
    rw [valV_neg hk] at hn
    have ih := valV_snoc k j y r hn
    by_cases e : p.1 = j
    · rw [valV_pos e, valV_pos e, if_neg (fun z => hk (e.trans z))]
    · rw [valV_neg e, valV_neg e, ih]
theorem valV_put (kvs : List (κ × V)) (k j : κ) (y : V) : valV (putK kvs k y) j = if j = k then some y else valV kvs j := by
  unfold putK
  by_cases a : (kvs.any fun kv => decide (kv.1 = k)) = true
  · rw [if_pos a, valV_map]
    rw [valV_any] at a
    by_cases e : j = k
    · obtain ⟨x, hx⟩ := Option.isSome_iff_exists.mp a
      rw [if_pos e, e, hx, Option.map_some, if_pos rfl]
    · rw [if_neg e]
      cases valV kvs j with
      | none => rfl
      | some x => rw [Option.map_some, if_neg e]
  · rw [if_neg a]
    refine valV_snoc k j y kvs ?_
    rw [valV_any] at a
    cases q : valV kvs k with
    | none => rfl
    | some x => rw [q] at a; exact (a rfl).elim
theorem length_putK (kvs : List (κ × V)) (k : κ) (v : V) : (putK kvs k v).length ≤ kvs.length + 1 := by
  unfold putK
  split
  · rw [List.length_map]; omega
  · rw [List.length_append, List.length_cons, List.length_nil]; omega

theorem RelO.isSome_eq {o : Option V} {u : Option Value} (r : RelO o u) : o.isSome = u.isSome := by
  cases o with
  | none => cases u with
    | none => rfl
    | some _ => exact (show False from r).elim
  | some _ => cases u with
    | none => exact (show False from r).elim
    | some _ => rfl

theorem KV.val {kvs : List (κ × V)} {vs : List (κ × Value)} (r : KV kvs vs) (k : κ) : RelO (valV kvs k) (valueAt vs k) := by
  unfold KV at r
  induction r with
  | nil => exact True.intro
  | @cons p q ps qs h t ih =>
    obtain ⟨h1, h2⟩ := h
    by_cases e : p.1 = k
    · have e' : q.1 = k := h1.symm.trans e
      have b : valueAt (q :: qs) k = some q.2 := by simp [valueAt, List.find?_cons, e']
      rw [valV_pos e, b]; exact h2
    · have e' : ¬ q.1 = k := fun z => e (h1.trans z)
      have b : valueAt (q :: qs) k = valueAt qs k := by simp [valueAt, List.find?_cons, e']
      rw [valV_neg e, b]; exact ih
theorem KV.any {kvs : List (κ × V)} {vs : List (κ × Value)} (r : KV kvs vs) (k : κ) : (kvs.any fun kv => decide (kv.1 = k)) = vs.any fun kv => decide (kv.1 = k) := by
  unfold KV at r
  induction r with
  | nil => rfl
  | cons h t ih => rw [List.any_cons, List.any_cons, ih, h.1]
theorem KV.repl {kvs : List (κ × V)} {vs : List (κ × Value)} (r : KV kvs vs) (k : κ) {y : V} {u : Value} (ry : RelV y u) :
    KV (kvs.map fun kv => if kv.1 = k then (kv.1, y) else kv) (vs.map fun kv => if kv.1 = k then (kv.1, u) else kv) := by
  unfold KV at r ⊢
  induction r with
  | nil => exact .nil
  | @cons p q ps qs h t ih =>
    rw [List.map_cons, List.map_cons]
    refine .cons ?_ ih
    obtain ⟨h1, h2⟩ := h
    by_cases e : p.1 = k
    · rw [if_pos e, if_pos (h1.symm.trans e)]; exact ⟨h1, ry⟩
    · rw [if_neg e, if_neg (fun z => e (h1.trans z))]; exact ⟨h1, h2⟩
theorem KV.put {kvs : List (κ × V)} {vs : List (κ × Value)} (r : KV kvs vs) (k : κ) {y : V} {u : Value} (ry : RelV y u) : KV (putK kvs k y) (stored vs k u) := by
  unfold putK stored
  rw [r.any k]
  by_cases e : (vs.any fun kv => decide (kv.1 = k)) = true
  · rw [if_pos e, if_pos e]; exact r.repl k ry
  · rw [if_neg e, if_neg e]; exact Paired.snoc r ⟨rfl, ry⟩
theorem KV.length {kvs : List (κ × V)} {vs : List (κ × Value)} (r : KV kvs vs) : kvs.length = vs.length := Paired.length r
end


theorem kV_is {P : Program} {w : World} {k : Key} {u : Value} (r : RelV (kV k) u) : (mixKind P w).is k u = true := by
  cases k with
  | inl i => obtain ⟨t, e⟩ := (show ∃ t, u = Value.int i t from r); subst e; exact mixKind_int P w i t
  | inr x => obtain ⟨t, e⟩ := (show ∃ t, u = Value.str x t from r); subst e; exact mixKind_str P w x t
theorem items_are {P : Program} {w : World} : ∀ {ks : List Key} {us : List Value}, Vals (ks.map kV) us → ItemsAre (mixKind P w) ks us
  | [], _, r => by rw [List.map_nil] at r; cases r; exact .nil
  | k :: ks, _, r => by
    rw [List.map_cons] at r
    cases r with
    | cons h t => exact .cons (kV_is h) (items_are t)

abbrev KT (H : Hp) : List (List Key × V) → List (List Key × Addr × Value) → Prop := Paired fun p q => p.1 = q.1 ∧ H q.2.1 = some (.tup (p.1.map kV)) ∧ RelV p.2 q.2.2
theorem KT.val {H : Hp} {kvs : List (List Key × V)} {xs : List (List Key × Addr × Value)} (r : KT H kvs xs) (k : List Key) : RelO (valV kvs k) ((atKey xs k).map (·.2)) := by
  induction r with
  | nil => exact True.intro
  | @cons p q ps qs h t ih =>
    obtain ⟨h1, _, h2⟩ := h
    by_cases e : p.1 = k
    · have e' : q.1 = k := h1.symm.trans e
      have b : atKey (q :: qs) k = some q.2 := by simp [atKey, List.find?_cons, e']
      rw [valV_pos e, b]; exact h2
    · have e' : ¬ q.1 = k := fun z => e (h1.trans z)
      have b : atKey (q :: qs) k = atKey qs k := by simp [atKey, List.find?_cons, e']
      rw [valV_neg e, b]; exact ih
theorem KT.repl {H : Hp} {kvs : List (List Key × V)} {xs : List (List Key × Addr × Value)} (r : KT H kvs xs) (k : List Key) {y : V} {u : Value} (ry : RelV y u) :
    KT H (kvs.map fun kv => if kv.1 = k then (kv.1, y) else kv) (xs.map (putAt k u)) := by
  induction r with
  | nil => exact .nil
  | @cons p q ps qs h t ih =>
    rw [List.map_cons, List.map_cons]
    refine .cons ?_ ih
    obtain ⟨h1, h2, h3⟩ := h
    unfold putAt
    by_cases e : p.1 = k
    · rw [if_pos e, if_pos (h1.symm.trans e)]; exact ⟨h1, h2, ry⟩
    · rw [if_neg e, if_neg (fun z => e (h1.trans z))]; exact ⟨h1, h2, h3⟩
theorem KT.put {H : Hp} {kvs : List (List Key × V)} {xs : List (List Key × Addr × Value)} (r : KT H kvs xs) (k : List Key) {b : Addr} {y : V} {u : Value} (hb : H b = some (.tup (k.map kV))) (ry : RelV y u) :
    KT H (putK kvs k y) (storedH xs k b u) := by
  have e : (kvs.any fun kv => decide (kv.1 = k)) = (atKey xs k).isSome := by
    rw [valV_any, (r.val k).isSome_eq, Option.isSome_map]
  unfold putK storedH
  rw [e]
  by_cases q : (atKey xs k).isSome = true
  · rw [if_pos q, if_pos q]; exact r.repl k ry
  · rw [if_neg q, if_neg q]; exact Paired.snoc r ⟨rfl, hb, ry⟩
theorem KT.keeps {H H' : Hp} {kvs : List (List Key × V)} {xs : List (List Key × Addr × Value)} (r : KT H kvs xs) (ht : ∀ b ys, H b = some (.tup ys) → H' b = some (.tup ys)) : KT H' kvs xs :=
  Paired.mapP r fun _ _ z => ⟨z.1, ht _ _ z.2.1, z.2.2⟩

section
variable {P : Program} {w : World} {H : Hp} {h : Heap} {a : Addr}
theorem rd_of {u : HO} (ok : HOk P w H h) (e : Rd H a u) : ObjOk P w H h a u := e.ok ok
theorem dk_rd {kvs : List (Key × V)} (ok : HOk P w H h) (e : Rd H a (.dK kvs)) : kvs.length ≤ sizeLine ∧ (a == sysModules) = false ∧ ∃ vs, KV kvs vs ∧ h.DictOf (mixKind P w) a vs :=
  show ObjOk P w H h a (.dK kvs) from rd_of ok e
theorem dk_of {kvs : List (Key × V)} (ok : HOk P w H h) (e : H a = some (.dK kvs)) : kvs.length ≤ sizeLine ∧ (a == sysModules) = false ∧ ∃ vs, KV kvs vs ∧ h.DictOf (mixKind P w) a vs := dk_rd ok (.inl e)
theorem key_of {ks : List Key} (ok : HOk P w H h) (e : H a = some (.tup (ks.map kV))) : (tupleKind (mixKind P w)).is h ks a := by
  obtain ⟨_, its, r, o, h1, h2, n, h3⟩ := (show ObjOk P w H h a (.tup (ks.map kV)) from ok a _ e)
  exact ⟨o, its.toArray, n, h1, h2, h3, by simpa using items_are r⟩
theorem dt_rd {kvs : List (List Key × V)} (ok : HOk P w H h) (e : Rd H a (.dT kvs)) : kvs.length ≤ sizeLine ∧ (a == sysModules) = false ∧
    ∃ xs, KT H kvs xs ∧ h.DictOfH (tupleKind (mixKind P w)) a xs := by
  obtain ⟨z, y, xs, r, o, es, ep, h1, h2, h3, h4, h5⟩ := (show ObjOk P w H h a (.dT kvs) from rd_of ok e)
  refine ⟨z, y, xs, r, o, es, ep, h1, h2, h3, h4, fun x hx => ?_, h5⟩
  have all : ∀ {l : List (List Key × V)} {m : List (List Key × Addr × Value)}, KT H l m → ∀ x ∈ m, (tupleKind (mixKind P w)).is h x.1 x.2.1 := by
    intro l m q
    induction q with
    | nil => intro x hx; exact nomatch hx
    | @cons p q ps qs hq t ih =>
      intro x hx
      rcases List.mem_cons.mp hx with e | hx
      · subst e
        exact key_of ok (by rw [← hq.1]; exact hq.2.1)
      · exact ih x hx
  exact all r x hx
theorem dt_of {kvs : List (List Key × V)} (ok : HOk P w H h) (e : H a = some (.dT kvs)) : kvs.length ≤ sizeLine ∧ (a == sysModules) = false ∧
    ∃ xs, KT H kvs xs ∧ h.DictOfH (tupleKind (mixKind P w)) a xs := dt_rd ok (.inl e)
end

noncomputable def DGet (H : Hp) (a : Addr) (y : V) (r : Option V) : Prop :=
  (∃ kvs k, Rd H a (.dK kvs) ∧ y = kV k ∧ r = valV kvs k) ∨ ∃ kvs k b, Rd H a (.dT kvs) ∧ y = .ref b ∧ H b = some (.tup (k.map kV)) ∧ r = valV kvs k
noncomputable def DPut (H : Hp) (a : Addr) (y v : V) (H' : Hp) : Prop :=
  (∃ kvs k, H a = some (.dK kvs) ∧ y = kV k ∧ kvs.length < sizeLine ∧ H' = upd H a (.dK (putK kvs k v))) ∨
  ∃ kvs k b, H a = some (.dT kvs) ∧ y = .ref b ∧ H b = some (.tup (k.map kV)) ∧ kvs.length < sizeLine ∧ H' = upd H a (.dT (putK kvs k v))
theorem DGet.k {H : Hp} {a : Addr} {kvs : List (Key × V)} {k : Key} (e : H a = some (.dK kvs)) : DGet H a (kV k) (valV kvs k) := .inl ⟨kvs, k, .inl e, rfl, rfl⟩
theorem DPut.k {H : Hp} {a : Addr} {kvs : List (Key × V)} {k : Key} {v : V} (e : H a = some (.dK kvs)) (hl : kvs.length < sizeLine) : DPut H a (kV k) v (upd H a (.dK (putK kvs k v))) := .inl ⟨kvs, k, e, rfl, hl, rfl⟩


section
variable {X : Cx} {pins : List (Addr × Obj)} {σ : St} {H : Hp} {s : Shared} {a : Addr} {y v : V} {u r : Value} {o : Option V} {A : Around} {E : Value → Shared → Prop}

theorem Inv.big (I : Inv X pins σ H s) : sysModules < s.heap.objs.size := by
  have h : mainGlobals < s.heap.objs.size := (I.mod.glob.keeps I.bk).lt
  exact Nat.lt_trans (by decide) h

theorem d_getItem {Q : Value → Shared → Prop} (hu : A.units + 1 < cLine) (I : Inv X pins σ H s) (g : DGet H a y (some v)) (ry : RelV y u) (h : ∀ w' s', Inv X pins σ H s' → RelV v w' → Q w' s') :
    wpAny (model X.prog X.w) A (getItem (.ref a) u) Q E s := by
  rcases g with ⟨kvs, k, e, ey, l⟩ | ⟨kvs, k, b, e, ey, eb, l⟩
  · subst ey
    obtain ⟨z, hd, vs, rel, dd⟩ := dk_rd I.hok e
    obtain ⟨w', hw, rw'⟩ := RelO.some_of (v := v) (o := valueAt vs k) (by rw [l]; exact rel.val k)
    exact wpAny_getItem_of (kV_is ry) dd.mapOf hw (h w' _ (I.tok _) rw')
  · subst ey
    cases (show u = Value.ref b from ry)
    obtain ⟨z, hd, xs, rel, dd⟩ := dt_rd I.hok e
    obtain ⟨w', hw, rw'⟩ := RelO.some_of (v := v) (o := (atKey xs k).map (·.2)) (by rw [l]; exact rel.val k)
    obtain ⟨p, hp, hp2⟩ := Option.map_eq_some_iff.mp hw
    refine wpAny_getItem_heap (tupleKind_room_in1 hu) (key_of I.hok eb) dd hp ?_
    rw [hp2]
    exact h w' _ (I.tok _) rw'
theorem d_notIn {Q : Value → Shared → Prop} (hu : A.units + 1 < cLine) (I : Inv X pins σ H s) (g : DGet H a y o) (ry : RelV y u) (h : ∀ s', Inv X pins σ H s' → Q (.bool (!o.isSome)) s') :
    wpAny (model X.prog X.w) A (compareOp .NotIn u (.ref a)) Q E s := by
  rcases g with ⟨kvs, k, e, ey, l⟩ | ⟨kvs, k, b, e, ey, eb, l⟩
  · subst ey
    obtain ⟨z, hd, vs, rel, dd⟩ := dk_rd I.hok e
    refine wpAny_notIn_of (kV_is ry) hd dd.mapOf ?_
    rw [← (rel.val k).isSome_eq, ← l]
    exact h _ (I.tok _)
  · subst ey
    cases (show u = Value.ref b from ry)
    obtain ⟨z, hd, xs, rel, dd⟩ := dt_rd I.hok e
    refine wpAny_notIn_heap (tupleKind_room_in1 hu) (key_of I.hok eb) hd dd ?_
    have q := (rel.val k).isSome_eq
    rw [Option.isSome_map] at q
    rw [← q, ← l]
    exact h _ (I.tok _)
theorem d_write {h' : Heap} {t' : Nat} {ob : HO} (I : Inv X pins σ H s) (mu : Mut (H a)) (hs : Heap.SameBut a s.heap h') (he : ∃ q, h'.get? a = some q) (new : ObjOk X.prog X.w (upd H a ob) h' a ob) :
    Inv X pins σ (upd H a ob) { s with heap := h', toks := t' } :=
  I.write (x := a) (e := a) mu (.inl rfl) (fun b q hb z => (hs.2 b hb).trans z) he new
theorem dk_new {P : Program} {w : World} {H' : Hp} {h' : Heap} {kvs : List (Key × V)} {vs : List (Key × Value)} (z : kvs.length ≤ sizeLine) (hd : (a == sysModules) = false) (rel : KV kvs vs) (dd : h'.DictOf (mixKind P w) a vs) :
    ObjOk P w H' h' a (.dK kvs) := ⟨z, hd, vs, rel, dd⟩
theorem d_setItem {H' : Hp} {Q : Unit → Shared → Prop} (hu : A.units + 1 < cLine) (I : Inv X pins σ H s) (g : DPut H a y v H') (ry : RelV y u) (rv : RelV v r) (h : ∀ s', Inv X pins σ H' s' → Q () s') :
    wpAny (model X.prog X.w) A (setItem (.ref a) u r) Q E s := by
  rcases g with ⟨kvs, k, e, ey, l, eH⟩ | ⟨kvs, k, b, e, ey, eb, l, eH⟩
  · subst ey eH
    obtain ⟨z, hd, vs, rel, dd⟩ := dk_of I.hok e
    have hz : vs.length ≤ sizeLine := by rw [← rel.length]; exact z
    have hl : (putK kvs k v).length ≤ sizeLine := by have := length_putK kvs k v; omega
    refine wpAny_setItem_pairs (hsz := hz) (kV_is ry) dd fun h' dd' hs => h _ ?_
    have he : ∃ q, h'.get? a = some q := let ⟨q, _, _, hq, _⟩ := dd'; ⟨q, hq⟩
    exact d_write I (by rw [e]; exact True.intro) hs he (dk_new hl hd (rel.put k rv) dd')
  · subst ey eH
    cases (show u = Value.ref b from ry)
    obtain ⟨z, hd, xs, rel, dd⟩ := dt_of I.hok e
    have hz : xs.length ≤ sizeLine := by rw [← Paired.length rel]; exact z
    have hl : (putK kvs k v).length ≤ sizeLine := by have := length_putK kvs k v; omega
    refine wpAny_setItem_heap (hsz := hz) (tupleKind_room_in1 hu) (key_of I.hok eb) dd fun h' dd' hs => h _ ?_
    obtain ⟨q, es, ep, hq, h2, h3, h4, _, h5⟩ := dd'
    refine d_write I (by rw [e]; exact True.intro) hs ⟨q, hq⟩ ⟨hl, hd, _, (rel.put k eb rv).keeps fun c ys ec => ?_, q, es, ep, hq, h2, h3, h4, h5⟩
    rw [upd_ne (ne_of ec e (fun z => nomatch z))]
    exact ec
end

section
variable {X : Cx} {pins : List (Addr × Obj)} {σ : St} {H : Hp} {s : Shared} {a : Addr} {kvs : List (Key × V)} {k : Key} {u : Value} {A : Around} {E : Value → Shared → Prop}
end


noncomputable def NoSl (i : Expr) : Prop := ∀ ov iv, subscripted i false ov iv = operate [ov, iv] (getItem ov iv)
theorem subD_of {prog : Program} {w : World} {A : Around} {E : Value → Shared → Prop} {s : Shared} {env : Env} {value slice : Expr} {pos : Pos} {T id : String} {Q : Value → Shared → Prop}
    (hl : typeLookup (.type T) "__getitem__" = pure (some (.builtin id))) (hs : NoSl slice)
    (h : wpAny (model prog w) A (eval value env) (fun o s₁ => wpAny (model prog w) A (eval slice env) (fun i s₂ => s₂.TypeIs o T ∧ wpAny (model prog w) A (getItem o i) Q E s₂) E s₁) E s) :
    wpAny (model prog w) A (eval (.Subscript value slice pos) env) Q E s := by
  refine Subscript_ (wpAny_mono h (fun o s₁ h₁ => wpAny_mono h₁ (fun i s₂ h₂ => ?_) fun _ _ x => x) fun _ _ x => x)
  obtain ⟨hT, h₂⟩ := h₂
  unfold subscriptTail
  refine wpAny_bind ?_
  rw [getitemInPython_of_ne hT.not_modules]
  refine wpAny_bind (wpAny_specialOf hT hl ?_)
  have fin : wpAny (model prog w) A (subscripted slice false o i) (fun r s₃ => wpAny (model prog w) A (letTemporaryGo value o r >>= fun _ => pure r) Q E s₃) E s₂ := by
    rw [hs o i]
    exact wpAny_operating (wpAny_mono h₂ (fun r s₃ h₃ => wpAny_bind (wpAny_letTemporaryGo (wpAny_pure h₃))) fun _ _ x => x)
  first
    | exact wpAny_pure (wpAny_bind fin)
    | exact wpAny_bind (wpAny_pure (wpAny_bind fin))
    | exact wpAny_bind fin

theorem dict_typeIs {X : Cx} {pins : List (Addr × Obj)} {σ : St} {H : Hp} {s : Shared} {a : Addr} {y : V} {o : Option V} (I : Inv X pins σ H s) (g : DGet H a y o) : s.TypeIs (.ref a) "dict" := by
  rcases g with ⟨kvs, k, e, _, _⟩ | ⟨kvs, k, b, e, _, _, _⟩
  · obtain ⟨_, _, vs, _, dd⟩ := dk_rd I.hok e
    exact dd.typeIs
  · obtain ⟨_, _, xs, _, dd⟩ := dt_rd I.hok e
    exact dd.typeIs

noncomputable def tDGet (td ty : TE) : TE := fun σ H Q => td σ H fun x H1 => ty σ H1 fun y H2 => ∃ a v, x = .ref a ∧ DGet H2 a y (some v) ∧ Q v H2
noncomputable def tDNotIn (ty td : TE) : TE := fun σ H Q => ty σ H fun y H1 => td σ H1 fun x H2 => ∃ a o, x = .ref a ∧ DGet H2 a y o ∧ Q (.bl (!o.isSome)) H2
noncomputable def sDPut (td ty tv : TE) : TS := fun D σ H => tv σ H fun v H1 => td σ H1 fun x H2 => ty σ H2 fun y H3 => ∃ a H4, x = .ref a ∧ DPut H3 a y v H4 ∧ D.nx σ H4

section
variable {X : Cx} {o i e value : Expr} {pos pos' tpos : Pos} {td ty tv : TE}
theorem pe_dget (hu : X.A.units + 1 < cLine) (ho : PE X o td) (hi : PE X i ty) (hs : NoSl i) : PE X (.Subscript o i pos) (tDGet td ty) := by
  intro pins s σ H Q I h
  refine subD_of PySem.F.slot_dict_getitem.lookup hs (thn (ho pins s σ H _ I h) fun u s1 ⟨x, H1, I1, rx, q1⟩ => thn (hi pins s1 σ H1 _ I1 q1) fun iv s2 ⟨y, H2, I2, ry, a, v, ex, g, q2⟩ => ?_)
  subst ex
  obtain rfl : u = Value.ref a := rx
  exact ⟨dict_typeIs I2 g, d_getItem hu I2 g ry fun w' s3 I3 rw' => ⟨v, H2, I3, rw', q2⟩⟩
theorem pc_dnotin (hu : X.A.units + 1 < cLine) (hi : PE X i ty) (ho : PE X o td) : PC X .NotIn i o (tDNotIn ty td) := by
  intro pins s σ H Q I h
  refine thn (hi pins s σ H _ I h) fun iv s1 ⟨y, H1, I1, ry, q1⟩ => thn (ho pins s1 σ H1 _ I1 q1) fun u s2 ⟨x, H2, I2, rx, a, ov, ex, g, q2⟩ => ?_
  subst ex
  obtain rfl : u = Value.ref a := rx
  exact d_notIn hu I2 g ry fun s3 I3 => ⟨.bl (!ov.isSome), H2, I3, rfl, q2⟩
theorem ps_dput (hu : X.A.units + 1 < cLine) (ho : PE X o td) (hi : PE X i ty) (hv : PE X value tv) (hs : swapsWith value (some (.Subscript o i pos')) pos.line X.env = pure false) :
    PS X (.Assign [.Subscript o i pos'] value pos) (sDPut td ty tv) := by
  intro pins s σ H D I h
  refine wpAny_Assign_Subscript (thn (hv pins s σ H _ I h) fun r s1 ⟨v, H1, I1, rv, q1⟩ => thn (ho pins s1 σ H1 _ I1 q1) fun u s2 ⟨x, H2, I2, rx, q2⟩ => thn (hi pins s2 σ H2 _ I2 q2) fun iv s3 ⟨y, H3, I3, ry, a, H4, ex, g, q3⟩ => ?_) hs
  subst ex
  obtain rfl : u = Value.ref a := rx
  exact d_setItem hu I3 g ry rv fun s4 I4 => ⟨σ, H4, I4, q3⟩
end


theorem dk_empty {P : Program} {w : World} {H : Hp} (h : Heap) (hb : sysModules < h.objs.size) : ObjOk P w H (h.push { cls := .type "dict", data := .dict #[] }) h.objs.size (.dK []) :=
  ⟨Nat.zero_le _, beq_eq_false_iff_ne.mpr (Ne.symm (Nat.ne_of_lt hb)), [], .nil, Heap.DictOf.new h⟩
noncomputable def tDNewK : TE := fun _ H Q => ∀ p, H p = none → Q (.ref p) (upd H p (.dK []))
section
variable {X : Cx} {pos : Pos}
theorem pe_dnewK : PE X (.Dict [] [] pos) tDNewK := fun pins s σ H Q I h =>
  wpAny_Dict_empty ⟨.ref s.heap.objs.size, _, I.laid (a := s.heap.objs.size) (o := .dK []) (t' := s.toks) (fun _ _ q => Heap.get?_push_of_some _ q) (Nat.le_refl _) (dk_empty s.heap I.big), rfl, h _ (I.hok.fresh (Nat.le_refl _))⟩
end




structure M1 (X : Cx) (o : Expr) (m : Str) (apos : Pos) (e : Expr) (cpos : Pos) : Prop where
  base : attributeBase o m X.env (eval o X.env) = eval o X.env
  few : ((backTo cpos (starEach [e] X.env)).all (fun x => !x.1) && (backToKw cpos (keywordEach [] X.env)).all (fun x => x.1.isSome)
    && decide (([e] : List Expr).length + ([] : List Keyword).length + (if ([] : List Keyword).isEmpty then 0 else 1) < 30)) = true
  line : (apos.endLine == cpos.line) = true
  trees : backTo cpos (starEach [e] X.env) = [(false, eval e X.env)]
structure M2 (X : Cx) (o : Expr) (m : Str) (apos : Pos) (e f : Expr) (cpos : Pos) : Prop where
  base : attributeBase o m X.env (eval o X.env) = eval o X.env
  few : ((backTo cpos (starEach [e, f] X.env)).all (fun x => !x.1) && (backToKw cpos (keywordEach [] X.env)).all (fun x => x.1.isSome)
    && decide (([e, f] : List Expr).length + ([] : List Keyword).length + (if ([] : List Keyword).isEmpty then 0 else 1) < 30)) = true
  line : (apos.endLine == cpos.line) = true
  trees : backTo cpos (starEach [e, f] X.env) = [(false, eval e X.env), (false, eval f X.env)]


section
variable {X : Cx} {pins : List (Addr × Obj)} {σ : St} {H : Hp} {s : Shared} {a : Addr} {y d : V} {u r : Value} {o : Option V} {A : Around} {E : Value → Shared → Prop}
end

section
variable {X : Cx} {o e f : Expr} {apos cpos : Pos} {td ty tx : TE}
end

section
variable {X : Cx} {pins : List (Addr × Obj)} {σ : St} {H : Hp} {s : Shared} {a : Addr} {kvs : List (Key × V)} {A : Around} {E : Value → Shared → Prop}
end


section
variable {X : Cx} {pins : List (Addr × Obj)} {σ : St} {H : Hp} {s : Shared} {a : Addr} {y : V} {u : Value} {A : Around} {E : Value → Shared → Prop}
end
end L2

namespace Att
open PySem PySem.W PySem.Calls PyProof.Rows

theorem ints_of_wellAll {P : Params} {h : Heap} : ∀ (ns : List Int) (vs : List Value), WellAll P h vs (ns.map WData.int) → IntsAre vs ns := by
  intro ns
  induction ns with
  | nil =>
    intro vs w
    rw [List.map_nil] at w
    cases w
    exact .nil
  | cons n ns ih =>
    intro vs w
    rw [List.map_cons] at w
    cases w with
    | cons a b =>
      cases a
      exact .cons _ _ (ih _ b)

theorem script_of {l : OpenLaw} {n : Nat} (hn : l.most = some n) {P : Params} {h : Heap} {args : List WData} {vals : List Value}
    (hpre : l.row.toRowW.claim.pre args = true) (hwl : WellAll P h vals args) :
    ∃ a vs ns, vals = [Value.ref a] ∧ args = [WData.list (ns.map WData.int)] ∧ h.get? a = some { cls := .type "list", data := .seq vs.toArray } ∧ IntsAre vs ns ∧ ns.length ≤ n := by
  have hsh : WShape.hasAll [] args [.list .int] = true := (pre_splitW hpre).1
  have hc : l.pre.holds [] { args := args } = true := (pre_splitW hpre).2
  obtain ⟨d, r, rfl, h1, h2⟩ := hasAllW_cons hsh
  obtain rfl := hasAllW_nil h2
  obtain ⟨xs, rfl, h3⟩ := hasW_list h1
  obtain ⟨ns, rfl⟩ := items_int h3
  have hlen : ns.length ≤ n := by
    unfold OpenLaw.pre at hc
    have h4 : (WTm.not (.lt (.lit (.int (n : Int))) (.len (.arg 0)))).holds [] { args := [.list (ns.map .int)] } = true := by
      have h4 := (holds_andW hc).1
      rw [hn] at h4
      exact h4
    have h5 := condW_of h4 (w_not (w_lt w_lit (w_len_list (w_arg rfl))))
    rw [List.length_map] at h5
    refine Nat.le_of_not_lt fun q => ?_
    have q' : (n : Int) < ((ns.length : Nat) : Int) := by omega
    first
      | (rw [decide_eq_true q'] at h5; exact absurd h5 (by decide))
      | (simp at h5; omega)
  cases hwl with
  | cons w1 w2 =>
    cases w2
    cases w1 with
    | list ho hall => exact ⟨_, _, ns, rfl, rfl, ho, ints_of_wellAll ns _ hall, hlen⟩

theorem post_true (l : OpenLaw) (args : List WData) : l.row.toRowW.claim.post args (.bool true) args = true :=
  postW_of (r := l.row.toRowW) (X := (true == true))
    (show WShape.has [] (.bool true) .bool = true by first | rfl | decide | simp [WShape.has, WShape.arms, WShape.armsAll])
    (show (WTm.eq .res (.lit (.bool true))).value [] { args := args, res := some (.bool true), after := args } = some (.bool (true == true)) from w_eq_bool (w_res rfl) w_lit) rfl


theorem attach_call {l : OpenLaw} {n : Nat} {q : Program} {loose : List Str} {XP : (Str → Option Value) → Heap → Prop} {YP : World → Heap → Prop} {d : DefRec}
    (hn : l.most = some n) (hdf : d.params.defaults = [])
    (call : ∀ (w : World) (s₀ s₁ : Shared) (mg mb : Str → Option Value) (fa : Addr) (o : Obj) (pm cd doc : Value) (a : Addr) (vs : List Value) (ns : List Int),
      Ground q loose [] XP w s₀ mg mb s₁.heap → YP w s₁.heap →
      s₁.heap.get? fa = some o → o.data = .func (docDef d.name d.params d.body d.scope pm cd doc) → s₁.heap.CodeRec cd d.name → mg d.name = some (.ref fa) →
      s₁.heap.get? a = some { cls := .type "list", data := .seq vs.toArray } → IntsAre vs ns → ns.length ≤ n → s₁.gens = #[] →
      codeAny (model l.prog w) callerA (.call (.ref fa) ⟨[.ref a], []⟩) (fun r s' => r = .ok (.ret (.bool true)) ∧ OldK s₁.heap s'.heap ∧ s'.os = s₁.os ∧ AllBare s'.gens) s₁) :
    WalkO q loose XP YP l.row.toRowW d [] (fun f vs => PySem.call f vs) := by
  intro w s₀ s₁ mg mb G Y fa o pm cd doc dV kV ho hd hcd hD hmg hg args vals as hpre hlay hrd hwl hlo
  obtain rfl : dV = .none := Dflts.none hD hdf
  obtain rfl : kV = .none := Dflts.noKw hD
  obtain ⟨a, vs, ns, rfl, rfl, hobj, hints, hlen⟩ := script_of hn hpre hwl
  refine enter_call (codeAny_mono (call w s₀ s₁ mg mb fa o pm cd doc a vs ns G Y ho (fd_plain hd) hcd hmg hobj hints hlen hg) fun r s' hq => ?_)
  obtain ⟨rfl, h2, h3, h4⟩ := hq
  exact ⟨.inl ⟨.bool true, .bool true, [], rfl, fun _ => rfl, .bool true, post_true l _, fun _ => ⟨List.Pairwise.nil, fun _ hm => (nomatch hm)⟩⟩, h2, h3, h4⟩


section
variable {prog : Program} {w : World} {A : Around} {E : Value → Shared → Prop} {s : Shared} {K : Frag}






end
end Att

namespace L2
open PySem PySem.Spec PyProof.Rows

theorem vals_ints : ∀ {vs : List Value} {ns : List Int}, IntsAre vs ns → Vals (ns.map V.int) vs
  | _, _, .nil => .nil
  | _, _, .cons n t h => .cons ⟨t, rfl⟩ (vals_ints h)

noncomputable def Only (H : Hp) : Prop := ∀ b, H b = none ∨ ∃ o xs, H b = some (.frz o (.lst xs))

theorem law_call {P : Program} {w : World} {K : PySem.W.Frag} {mg mb : Str → Option Value} {CX : CXT} {k : Nat} {fa a : Addr} {fd : FuncData} {x : Str} {sp : Sp} {s₁ : Shared} {vs : List Value} {ns : List Int}
    (KX : K.In s₁.heap) (hns : s₁.heap.Ns mainGlobals mg) (hb : s₁.heap.Ns builtinsNs mb) (hbb : ∀ x : Str, x ≠ "__name__" → mb x = bootBuiltins x) (hlim : s₁.heap.NoLimit) (hg : s₁.gens = #[])
    (ha : s₁.heap.get? a = some { cls := .type "list", data := .seq vs.toArray }) (hi : IntsAre vs ns) (hl : ns.length ≤ sizeLine) (hr : Room k callerA)
    (F : ∀ base : Heap, K.In base → base.Ns mainGlobals mg → FnOk P w K mg base CX k fa fd [x] sp) (hbind : ∀ (s : Shared) (u : Value), BindsTo s fd ⟨[u], []⟩ [(x, u)])
    (hsp : ∀ H : Hp, Only H → SqL K H a (ns.map V.int) → sp [.ref a] H (fun v _ => v = .bl true) fun _ _ _ => False)
    (hCX : ∀ H e s', CX [] H s₁ (fun _ _ _ => False) e s' → False) :
    codeAny (model P w) callerA (.call (.ref fa) ⟨[.ref a], []⟩) (fun r s' => r = .ok (.ret (.bool true)) ∧ OldK s₁.heap s'.heap ∧ s'.os = s₁.os ∧ AllBare s'.gens) s₁ := by
  have rv := vals_ints hi
  have lenV := hi.length
  -- from an abstract heap in which nothing but the script may be tracked
  have core : ∀ H : Hp, Only H → SqL K H a (ns.map V.int) → HOk P w H s₁.heap → (∀ b, H b ≠ none → b = a) → (H a ≠ none → K.lookup a = none) →
      codeAny (model P w) callerA (.call (.ref fa) ⟨[.ref a], []⟩) (fun r s' => r = .ok (.ret (.bool true)) ∧ OldK s₁.heap s'.heap ∧ s'.os = s₁.os ∧ AllBare s'.gens) s₁ := by
    intro H hO hS hok hA hK
    have base_of : ∀ {b : Addr} {o : Obj}, s₁.heap.get? b = some o → H b = none → (hidT s₁.heap H).get? b = some o := fun e n => hidT_get e n
    have noA : ∀ {b : Addr} {o : Obj} {es : Array DictEntry} {ep : Nat}, s₁.heap.get? b = some o → o.data = .dict es ep → H b = none := fun {b o es ep} e d => by
      cases q : H b with
      | none => rfl
      | some u =>
        have e' : b = a := hA b (by rw [q]; simp)
        subst e'
        rw [ha] at e; cases e
        have d' : Data.seq vs.toArray _ = Data.dict es ep := d
        cases d'
    have nsK : ∀ {b : Addr} {m : Str → Option Value}, s₁.heap.Ns b m → (hidT s₁.heap H).Ns b m := fun {b m} ⟨o, es, ep, e, d, r⟩ => ⟨o, es, ep, base_of e (noA e d), d, r⟩
    have hKb : K.In (hidT s₁.heap H) := fun b o e => base_of (KX b o e) (by
      cases q : H b with
      | none => rfl
      | some u =>
        have e' : b = a := hA b (by rw [q]; simp)
        subst e'
        rw [hK (by rw [q]; simp)] at e; cases e)
    have hM : Mod K mg (hidT s₁.heap H) := ⟨hKb, nsK hns, ⟨mb, nsK hb, hbb⟩, let ⟨mc, h1, h2⟩ := hlim; ⟨mc, nsK h1, h2⟩⟩
    have e0 : Env0 P w K mg (hidT s₁.heap H) callerA [] s₁ H := ⟨rfl, hM, fun b o e => of_hidT e, Nat.le_of_eq (hidT_size _ _), trivial, fun b hb => absurd (show b ∈ ([] : List Addr) from hb) (by simp), hok, .of_eq hg⟩
    refine codeAny_mono ((F _ hKb (nsK hns)).run callerA [] s₁ H ⟨[.ref a], []⟩ [.ref a] [.ref a] _ _ hr e0 (hbind s₁ (.ref a)) (.cons rfl .nil) (hsp H hO hS)) fun r s' h => ?_
    cases r with
    | error e => exact (hCX H e s' h).elim
    | ok fl =>
      cases fl with
      | next => exact False.elim h
      | brk => exact False.elim h
      | cont => exact False.elim h
      | ret u =>
        obtain ⟨v, H', os, bare, un, hok', r', q⟩ := h
        have q' : v = .bl true := q
        subst q'
        obtain rfl : u = Value.bool true := r'
        refine ⟨rfl, OldK.of_keep fun b o e => ?_, os, bare⟩
        cases q : H b with
        | none => exact un.keep b o e q (by intro z; exact absurd (show b ∈ ([] : List Addr) from z) (by simp)) (by simp)
        | some u =>
          rcases hO b with z | ⟨ob, xs, z⟩
          · rw [q] at z; cases z
          · have z2 := un.frzs b ob _ z
            obtain ⟨e1, _⟩ := hok b _ z
            obtain ⟨e2, _⟩ := hok' b _ z2
            rw [e] at e1; cases e1
            exact e2
  cases hk : K.lookup a with
  | some o =>
    -- the script is one of the module's own objects
    have e := KX a o hk
    rw [ha] at e
    cases e
    refine core (fun _ => none) (fun _ => .inl rfl) (.inr ⟨_, vs.toArray, _, hk, rfl, rfl, rfl, by rw [List.size_toArray, lenV]; exact hl, by simpa using rv⟩) (fun b u z => by have z' : (none : Option HO) = some u := z; cases z') (fun b z => absurd rfl z) fun z => absurd rfl z
  | none =>
    refine core (fun b => if b = a then some (.frz { cls := .type "list", data := .seq vs.toArray } (.lst (ns.map V.int))) else none) (fun b => ?_) (.inl (.inr ⟨{ cls := .type "list", data := .seq vs.toArray }, if_pos rfl⟩)) (fun b u z => ?_) (fun b z => ?_) fun _ => hk
    · by_cases hb : b = a
      · exact .inr ⟨_, _, if_pos hb⟩
      · exact .inl (if_neg hb)
    · by_cases hb : b = a
      · have z' := (if_pos hb).symm.trans z
        cases z'
        subst hb
        exact ⟨ha, by rw [List.length_map]; exact hl, vs, _, rv, ha⟩
      · have z' := (if_neg hb).symm.trans z
        cases z'
    · by_cases hb : b = a
      · exact hb
      · exact absurd (if_neg hb) z
end L2

namespace L2
open PySem PySem.Spec PyProof.Rows


theorem walk_of {l : PySem.W.OpenLaw} {n k : Nat} {q : Program} {loose : List Str} {XP : (Str → Option Value) → Heap → Prop} {YP : World → Heap → Prop} {d : DefRec} {K : Params → PySem.W.Frag} {CX : World → CXT} {sp : World → Sp} {x : Str}
    (hn : l.most = some n) (hn2 : n ≤ sizeLine) (hdf : d.params.defaults = []) (hr : Room k callerA)
    (hY : ∀ (w : World) (h : Heap), YP w h → (K w.params).In h)
    (F : ∀ (w : World) (mg : Str → Option Value) (fa : Addr) (h : Heap), (K w.params).In h → h.Ns mainGlobals mg → mg d.name = some (.ref fa) →
      ∃ fd : FuncData, (∀ (s : Shared) (u : Value), BindsTo s fd ⟨[u], []⟩ [(x, u)]) ∧
        ∀ base : Heap, (K w.params).In base → base.Ns mainGlobals mg → FnOk l.prog w (K w.params) mg base (CX w) k fa fd [x] (sp w))
    (hsp : ∀ (w : World) (H : Hp) (a : Addr) (ns : List Int), ns.length ≤ n → Only H → SqL (K w.params) H a (ns.map V.int) → sp w [.ref a] H (fun v _ => v = .bl true) fun _ _ _ => False)
    (hCX : ∀ (w : World) (H : Hp) (s : Shared) (e : Value) (s' : Shared), CX w [] H s (fun _ _ _ => False) e s' → False) :
    PySem.W.WalkO q loose XP YP l.row.toRowW d [] (fun f vs => PySem.call f vs) := by
  refine Att.attach_call hn hdf fun w s₀ s₁ mg mb fa o pm cd doc a vs ns G Y ho hd hcd hmg hobj hints hlen hg => ?_
  have KX := hY w _ Y
  obtain ⟨fd, hb, hF⟩ := F w mg fa _ KX G.T.g hmg
  exact law_call KX G.T.g G.T.b G.T.builtins G.T.nolimit hg hobj hints (Nat.le_trans hlen hn2) hr hF hb (fun H hO hS => hsp w H a ns hlen hO hS) fun H e s' => hCX w H s₁ e s'
end L2

/- THE LAST THEOREM (shape; LID, My.* are yours):
   My.Adr: a structure of the addresses that your layer names (classes, functions); My.Txt K t: a structure (Prop) of the equations over K;
   My.txt_mk : {K} {implicit addresses ..} (e1 : nsIn K mainGlobals "law" = some (some (.ref f))) (e2 : K.lookup f = some ⟨oc, od, .func (fnOf "law" "law" params body scope dV kV doc pm an cdv ct), sl⟩) (e3 : codeIn K cdv "law" = true) .. : ∃ t, My.Txt K t

(the tactic k_is has no namespace: write k_is) -/

namespace L2
open PySem PySem.Spec PyProof.Rows

noncomputable def defArgs (s : Stmt) : Arguments := match s with
  | .FunctionDef _ a _ _ _ _ _ _ _ _ => a
  | _ => { posonlyargs := [], args := [], vararg := none, kwonlyargs := [], kw_defaults := [], kwarg := none, defaults := [] }
noncomputable def defBody (s : Stmt) : List Stmt := match s with
  | .FunctionDef _ _ b _ _ _ _ _ _ _ => b
  | _ => []
noncomputable def defScope (s : Stmt) : Scope := match s with
  | .FunctionDef _ _ _ _ _ _ sc _ _ _ => sc
  | _ => { kind := .function, names := [], isGenerator := false, isCoroutine := false }

abbrev CX0 : CXT := fun _ _ _ _ _ _ => False
abbrev E0 : XK := fun _ _ _ => False
theorem pass0 {X : Cx} : Passes CX0 X E0 := fun _ _ _ _ _ _ _ h => h.elim

structure Fun (K : PySem.W.Frag) (x qual : Str) (st : Stmt) (f : Addr) (fd : FuncData) : Prop where
  ex : ∃ (oc : Value) (od : Option Addr) (kV doc pm : Value) (an : Option Addr) (cdv ct : Value) (osl : Array (Option Value)),
    fd = PySem.W.fnOf x qual (defArgs st) (defBody st) (defScope st) .none kV doc pm an cdv ct ∧ K.lookup f = some ⟨oc, od, .func fd, osl⟩ ∧ PySem.W.codeIn K cdv qual = true
  kp : PySem.W.keepIn K (.ref f) = true
section
variable {P : Program} {w : World} {K : PySem.W.Frag} {mg : Str → Option Value} {base : Heap}
theorem Fun.ok {x qual : Str} {st : Stmt} {f : Addr} {fd : FuncData} {N ps : List Str} {k : Nat} {sp : Sp} (F : Fun K x qual st f fd) (S : FnScope N ps (defScope st)) (len : ∀ vs H Q E, sp vs H Q E → vs.length = ps.length)
    (hbody : ∀ (cdv : Value) (A : Around) (outer : List Env) (s : Shared) (H : Hp) (vs : List V) (Q : VK) (E : XK), Room k (A.deeper (envOfC qual (defScope st) s.heap.objs.size f cdv)) → sp vs H Q E →
      ∃ t, PSs (cxOf CX0 P w K mg base N qual (defScope st) f cdv A outer s H E).nox (defBody st) t ∧ t { nx := fun _ H' => Q .non H', rt := Q } (start N vs) H) : FnOk P w K mg base CX0 (k + 1) f fd ps sp := by
  obtain ⟨oc, od, kV, doc, pm, an, cdv, ct, osl, rfl, lk, hcd⟩ := F.ex
  refine fn_of lk hcd S len fun A outer s H vs Q E hr hsp => ?_
  obtain ⟨t, h, q⟩ := hbody cdv A outer s H vs Q E hr hsp
  exact ⟨t, h.nox, q⟩
theorem Fun.binds {x qual : Str} {st : Stmt} {f : Addr} {fd : FuncData} {ps : List Str} (F : Fun K x qual st f fd)
    (h : ∀ (kV doc pm : Value) (an : Option Addr) (cdv ct : Value) (us : List Value), us.length = ps.length → bindArgs (PySem.W.fnOf x qual (defArgs st) (defBody st) (defScope st) .none kV doc pm an cdv ct) ⟨us, []⟩ = pure (ps.zip us)) : Binds K fd ps [] := by
  obtain ⟨oc, od, kV, doc, pm, an, cdv, ct, osl, rfl, lk, hcd⟩ := F.ex
  exact .all (h kV doc pm an cdv ct)
theorem fun_mk {x qual : Str} {st : Stmt} {f : Addr} {oc : Value} {od an : Option Addr} {osl : Array (Option Value)} {kV doc pm cdv ct : Value} (l : K.lookup f = some ⟨oc, od, .func (PySem.W.fnOf x qual (defArgs st) (defBody st) (defScope st) .none kV doc pm an cdv ct), osl⟩)
    (c : PySem.W.codeIn K cdv qual = true) (k : PySem.W.keepIn K (.ref f) = true) : Fun K x qual st f (PySem.W.fnOf x qual (defArgs st) (defBody st) (defScope st) .none kV doc pm an cdv ct) := ⟨⟨oc, od, kV, doc, pm, an, cdv, ct, osl, rfl, l, c⟩, k⟩
end
theorem hu_of {A : Around} {k : Nat} (hr : Room k A) : A.units + 1 < cLine := Nat.lt_of_le_of_lt (Nat.add_le_add_left (by decide : 1 ≤ 64) _) hr.units

section
variable {X : Cx}
theorem pv (i : Nat) {x : Str} {pos : Pos} (hN : X.N[i]? = some x := by rfl) (hv : Vis X.env.scope x := by first | exact Or.inl rfl | exact Or.inr (Or.inl rfl) | exact Or.inr (Or.inr rfl)) (hd : (x == ("__debug__" : Str)) = false := by decide)
    (hcd : (x == ("__classdict__" : Str)) = false := by decide) : PE X (.Name x pos) (tVar i) := pe_var hN hv hd hcd
end

theorem iteF {A B : Prop} (h : B) : if false = true then A else B := by
  rw [if_neg Bool.false_ne_true]
  exact h
theorem iteT {A B : Prop} (h : A) : if true = true then A else B := by
  rw [if_pos rfl]
  exact h
theorem ite2 {c A B : Prop} [Decidable c] (h1 : c → A) (h2 : ¬ c → B) : if c then A else B := by
  by_cases h : c
  · rw [if_pos h]
    exact h1 h
  · rw [if_neg h]
    exact h2 h

noncomputable def Same (H H' : Hp) : Prop := ∀ b o, H b = some o → H' b = some o
theorem Same.refl (H : Hp) : Same H H := fun _ _ h => h
theorem Same.trans {H H1 H2 : Hp} (a : Same H H1) (b : Same H1 H2) : Same H H2 := fun c o h => b c o (a c o h)
theorem Same.free {H H' : Hp} (e : Same H H') {l : Addr} (h : H' l = Option.none) : H l = Option.none := by
  cases q : H l with
  | none => rfl
  | some o =>
    rw [e l o q] at h
    cases h
theorem Same.seq {K : PySem.W.Frag} {H H' : Hp} {a : Addr} {xs : List V} (e : Same H H') (h : SqL K H a xs) : SqL K H' a xs := by
  rcases h with (h | ⟨o, h⟩) | h
  · exact .inl (.inl (e _ _ h))
  · exact .inl (.inr ⟨o, e _ _ h⟩)
  · exact .inr h

section
variable {κ : Type} [DecidableEq κ]
end
section
variable {X : Cx}
end
end L2
set_option Elab.async false
set_option linter.all false
set_option maxRecDepth 100000
set_option maxHeartbeats 4000000
namespace L2
open PySem PySem.Spec PyProof.Rows

noncomputable def wk : St → St → Prop
  | [], [] => True
  | none :: a, _ :: b => wk a b
  | some x :: a, y :: b => y = some x ∧ wk a b
  | _, _ => False
theorem wk_len : ∀ {a b : St}, wk a b → a.length = b.length
  | [], [], _ => rfl
  | [], _ :: _, h => h.elim
  | none :: _, [], h => h.elim
  | some _ :: _, [], h => h.elim
  | none :: a, _ :: b, h => congrArg (· + 1) (wk_len (a := a) (b := b) h)
  | some _ :: a, _ :: b, h => congrArg (· + 1) (wk_len (a := a) (b := b) h.2)
theorem wk_get : ∀ {a b : St}, wk a b → ∀ (i : Nat) (v : V), a[i]? = some (some v) → b[i]? = some (some v)
  | [], [], _, i, v, e => by simp at e
  | [], _ :: _, h, _, _, _ => h.elim
  | none :: _, [], h, _, _, _ => h.elim
  | some _ :: _, [], h, _, _, _ => h.elim
  | none :: a, y :: b, h, 0, v, e => by simp at e
  | none :: a, y :: b, h, i + 1, v, e => by
    have := wk_get (a := a) (b := b) h i v (by simpa using e)
    simpa using this
  | some x :: a, y :: b, h, 0, v, e => by
    have e' : x = v := by simpa using e
    subst e'
    rw [h.1]; rfl
  | some x :: a, y :: b, h, i + 1, v, e => by
    have := wk_get (a := a) (b := b) h.2 i v (by simpa using e)
    simpa using this

noncomputable def clsOf (env : Env) : List (Str × NameKind) → List (Str × Addr) → List (Str × Addr)
  | [], acc => acc
  | (n, k) :: r, acc => clsOf env r (if (k == .free) = true then (n, (env.cells.lookup n).getD 0) :: acc else acc)
theorem closure_go {env : Env} : ∀ (ns : List (Str × NameKind)) (acc : List (Str × Addr)), (∀ y ∈ ns, y.2 = .free → ∃ c, env.cells.lookup y.1 = some c) →
    (forIn ns acc (fun x r => match x with
      | (name, kind) => if (kind == NameKind.free) = true then (do let c ← cellOf env name; pure (ForInStep.yield ((name, c) :: r))) else pure (ForInStep.yield r)) : Sem (List (Str × Addr))) = pure (clsOf env ns acc)
  | [], acc, _ => rfl
  | (n, k) :: r, acc, h => by
    rw [List.forIn_cons]
    have ih := fun a => closure_go (env := env) r a fun y hy => h y (List.mem_cons_of_mem _ hy)
    by_cases hk : (k == NameKind.free) = true
    · obtain ⟨c, hc⟩ := h (n, k) List.mem_cons_self (by simpa using hk)
      have e1 : cellOf env n = pure c := by unfold cellOf; rw [hc]
      simp only [hk, if_true, e1, pure_bind]
      unfold clsOf
      simp only [hk, if_true, hc, Option.getD_some]
      exact ih _
    · simp only [hk, if_false, pure_bind]
      unfold clsOf
      simp only [hk, if_false]
      exact ih _
theorem closure_eq {scope : Scope} {env : Env} (h : ∀ y ∈ scope.names, y.2 = .free → ∃ c, env.cells.lookup y.1 = some c) : closureFor scope env = pure (clsOf env scope.names []) := by
  have e := closure_go scope.names [] h
  unfold closureFor
  first
    | (rw [show (forIn scope.names ([] : List (Str × Addr)) _ : Sem (List (Str × Addr))) = pure (clsOf env scope.names []) from e]; rfl)
    | (simp only [bind_pure]; exact e)
    | exact (congrArg (· >>= pure) e)
theorem clsOf_mem {env : Env} : ∀ (ns : List (Str × NameKind)) (acc : List (Str × Addr)) (n : Str) (a : Addr), (n, a) ∈ clsOf env ns acc → (n, a) ∈ acc ∨ (a = (env.cells.lookup n).getD 0 ∧ (n, NameKind.free) ∈ ns)
  | [], acc, n, a, h => .inl h
  | (m, k) :: r, acc, n, a, h => by
    unfold clsOf at h
    by_cases hk : (k == NameKind.free) = true
    · rw [if_pos hk] at h
      rcases clsOf_mem r _ n a h with q | ⟨q1, q2⟩
      · rcases List.mem_cons.mp q with q | q
        · cases q
          have hk' : k = .free := by simpa using hk
          subst hk'
          exact .inr ⟨rfl, List.mem_cons_self⟩
        · exact .inl q
      · exact .inr ⟨q1, List.mem_cons_of_mem _ q2⟩
    · rw [if_neg hk] at h
      rcases clsOf_mem r _ n a h with q | ⟨q1, q2⟩
      · exact .inl q
      · exact .inr ⟨q1, List.mem_cons_of_mem _ q2⟩
theorem clsOf_acc {env : Env} : ∀ (ns : List (Str × NameKind)) (acc : List (Str × Addr)) (p : Str × Addr), p ∈ acc → p ∈ clsOf env ns acc
  | [], _, _, h => h
  | (m, k) :: r, acc, p, h => by
    unfold clsOf
    refine clsOf_acc r _ p ?_
    split
    · exact List.mem_cons_of_mem _ h
    · exact h
theorem clsOf_free {env : Env} : ∀ (ns : List (Str × NameKind)) (acc : List (Str × Addr)) (n : Str), (n, NameKind.free) ∈ ns → (n, (env.cells.lookup n).getD 0) ∈ clsOf env ns acc
  | [], _, _, h => nomatch h
  | (m, k) :: r, acc, n, h => by
    unfold clsOf
    rcases List.mem_cons.mp h with q | q
    · cases q
      refine clsOf_acc r _ _ ?_
      rw [if_pos (by rfl)]
      exact List.mem_cons_self
    · exact clsOf_free r _ n q
theorem lookup_mem {α β : Type} [BEq α] [LawfulBEq α] : ∀ {l : List (α × β)} {x : α} {y : β}, l.lookup x = some y → (x, y) ∈ l
  | [], _, _, h => by simp at h
  | (a, b) :: r, x, y, h => by
    rw [List.lookup_cons] at h
    by_cases e : (x == a) = true
    · rw [e] at h
      have e' : x = a := by simpa using e
      have h' : b = y := by simpa using h
      subst e' h'
      exact List.mem_cons_self
    · have e2 : (x == a) = false := by simpa using e
      rw [e2] at h
      exact List.mem_cons_of_mem _ (lookup_mem (by simpa using h))
theorem lookup_of_mem {α β : Type} [BEq α] [LawfulBEq α] : ∀ {l : List (α × β)} {x : α} {y : β}, (x, y) ∈ l → ∃ z, l.lookup x = some z
  | [], _, _, h => nomatch h
  | (a, b) :: r, x, y, h => by
    rw [List.lookup_cons]
    by_cases e : (x == a) = true
    · rw [e]; exact ⟨b, rfl⟩
    · have e2 : (x == a) = false := by simpa using e
      rw [e2]
      rcases List.mem_cons.mp h with q | q
      · cases q; simp at e
      · exact lookup_of_mem q
theorem cls_look {env : Env} {ns : List (Str × NameKind)} {x : Str} {c : Addr} (h : (clsOf env ns []).lookup x = some c) (hall : ∀ y ∈ ns, y.2 = .free → ∃ c, env.cells.lookup y.1 = some c) : env.cells.lookup x = some c := by
  rcases clsOf_mem ns [] x c (lookup_mem h) with q | ⟨q1, q2⟩
  · nomatch q
  · obtain ⟨c', hc⟩ := hall _ q2 rfl
    have hc' : env.cells.lookup x = some c' := hc
    rw [hc'] at q1
    rw [hc', q1]; rfl
theorem cls_has {env : Env} {ns : List (Str × NameKind)} {x : Str} (h : (x, NameKind.free) ∈ ns) : ∃ c, (clsOf env ns []).lookup x = some c := lookup_of_mem (clsOf_free ns [] x h)

noncomputable def Cx.block (X : Cx) (N : List Str) (scope : Scope) (C : Addr) (s : Shared) (H : Hp) (fp : List Addr) : Cx :=
  { X with N := N, s₀ := s, H₀ := H, env := compEnvC scope (clsOf X.env scope.names []) C X.env, outer := X.stack, ex := fp, fn := fun _ => false, pn := [], xe := fun _ _ => False }
theorem relabel_kind {scope : Scope} {env : Env} {x : Str} {k : NameKind} (h : (relabel scope env).names.lookup x = some k) : ∃ k', scope.names.lookup x = some k' ∧ (k = k' ∨ (k' = .free ∧ k = .cell)) := by
  unfold relabel at h
  generalize scope.names = ns at h
  induction ns with
  | nil => simp at h
  | cons p r ih =>
    obtain ⟨n, k0⟩ := p
    rw [List.map_cons] at h
    by_cases e : (x == n) = true
    · refine ⟨k0, by rw [List.lookup_cons, e], ?_⟩
      by_cases c : (k0 == NameKind.free && env.scope.kind == .function && env.kindOf n == some .cell) = true
      · have h1 : some NameKind.cell = some k := by
          have h2 := h
          simp only [c, if_true] at h2
          rw [List.lookup_cons, e] at h2
          exact h2
        have h3 : k0 = .free := by
          simp only [Bool.and_eq_true, beq_iff_eq] at c
          exact c.1.1
        exact .inr ⟨h3, (Option.some.inj h1).symm⟩
      · have h1 : some k0 = some k := by
          have h2 := h
          simp only [c, Bool.false_eq_true, if_false] at h2
          rw [List.lookup_cons, e] at h2
          exact h2
        exact .inl (Option.some.inj h1).symm
    · have e2 : (x == n) = false := by simpa using e
      rw [List.lookup_cons, e2]
      refine ih ?_
      by_cases c : (k0 == NameKind.free && env.scope.kind == .function && env.kindOf n == some .cell) = true
      · have h2 := h
        simp only [c, if_true] at h2
        rw [List.lookup_cons, e2] at h2
        exact h2
      · have h2 := h
        simp only [c, Bool.false_eq_true, if_false] at h2
        rw [List.lookup_cons, e2] at h2
        exact h2
theorem relabel_free {scope : Scope} {env : Env} {x : Str} (h : scope.names.lookup x = some .free) : (relabel scope env).names.lookup x = some .cell ∨ (relabel scope env).names.lookup x = some .free := by
  unfold relabel
  show List.lookup x (scope.names.map _) = _ ∨ List.lookup x (scope.names.map _) = _
  generalize scope.names = ns at h
  induction ns with
  | nil => simp at h
  | cons p r ih =>
    obtain ⟨n, k0⟩ := p
    rw [List.map_cons]
    by_cases e : (x == n) = true
    · rw [List.lookup_cons, e] at h
      have h' : k0 = .free := by simpa using h
      subst h'
      by_cases c : (NameKind.free == NameKind.free && env.scope.kind == .function && env.kindOf n == some .cell) = true
      · left
        simp only [c, if_true]
        rw [List.lookup_cons, e]
      · right
        simp only [c, Bool.false_eq_true, if_false]
        rw [List.lookup_cons, e]
    · have e2 : (x == n) = false := by simpa using e
      rw [List.lookup_cons, e2] at h
      have h3 := ih h
      by_cases c : (k0 == NameKind.free && env.scope.kind == .function && env.kindOf n == some .cell) = true
      · simp only [c, if_true]
        rw [List.lookup_cons, e2]
        exact h3
      · simp only [c, Bool.false_eq_true, if_false]
        rw [List.lookup_cons, e2]
        exact h3

noncomputable def PIfs (X : Cx) (ifs : List Expr) (t : TT) : Prop :=
  ∀ (pins : List (Addr × Obj)) (s : Shared) (σ : St) (H : Hp) (Q : Bool → Hp → Prop), Inv X pins σ H s → t σ H Q →
    wpAny (model X.prog X.w) X.A (forIn ifs true fun c r => if r = true then do let ok ← isTrue c X.env (eval c X.env); pure (ForInStep.yield ok) else pure (ForInStep.yield r)) (TP X pins σ Q) X.xe s
noncomputable def tYes : TT := fun _ H Q => Q true H
theorem pifs_nil {X : Cx} : PIfs X [] tYes := fun _ _ _ H _ I h => wpAny_tests_nil ⟨H, I, h⟩
theorem pifs_one {X : Cx} {c : Expr} {t : TT} (h : PT X c t) : PIfs X [c] t := fun pins s σ H Q I hw => wpAny_tests_one (h pins s σ H Q I hw)

theorem compLoop_any {prog : Program} {w : World} {A : Around} {R : Result → Shared → Prop} {s : Shared} {elt target iter : Expr} {ifs : List Expr} {scope : Scope} {pos : Pos} {it acc : Value} {env : Env} (I : Nat → Shared → Prop)
    (turn : ∀ n s, I n s → wpAny (model prog w) A (pyNext it) (fun r s1 => match r with
      | none => R (.ok .next) s1
      | some v => wpAny (model prog w) A (letOwnedTupleGo target it v) (fun _ s2 => wpAny (model prog w) A (assign target env v) (fun _ s3 =>
          wpAny (model prog w) A (forIn ifs true fun c r => if r = true then do let ok ← isTrue c env (eval c env); pure (ForInStep.yield ok) else pure (ForInStep.yield r)) (fun ok s4 =>
            if ok = true then wpAny (model prog w) A (eval elt env) (fun x s5 =>
              wpAny (model prog w) A (call (.builtin "list.append") [acc, x]) (fun _ s6 => ∃ m, m < n ∧ I m s6) (fun _ _ => False) s5) (fun _ _ => False) s4
            else ∃ m, m < n ∧ I m s4) (fun _ _ => False) s3) (fun _ _ => False) s2) (fun _ _ => False) s1) (fun _ _ => False) s)
    (n : Nat) (h : I n s) : codeAny (model prog w) A (.compLoop (.ListComp elt [⟨target, iter, ifs, 0⟩] scope pos) 0 it acc env) R s := by
  refine codeAny_loop rfl I (fun n s hI => ?_) n h
  show wpAny _ A ((compTurn (.ListComp elt [⟨target, iter, ifs, 0⟩] scope pos) 0 it acc env).onRaise (fun x => do noteFrame x env; theTreesLotGoes x)) _ _ s
  refine wpAny_noted ?_
  rw [compTurn_list]
  have no : ∀ {E : Value → Shared → Prop}, ∀ e s', (fun (_ : Value) (_ : Shared) => False) e s' → E e s' := fun _ _ z => False.elim z
  refine wpAny_bind (wpAny_standAt (wpAny_bind (wpAny_mono (turn n s hI) (fun r s1 h1 => ?_) no)))
  cases r with
  | none => exact wpAny_pure h1
  | some v =>
    refine wpAny_bind (wpAny_mono h1 (fun _ s2 h2 => ?_) no)
    refine wpAny_bind (wpAny_mono h2 (fun _ s3 h3 => wpAny_bind (wpAny_mono h3 (fun ok s4 h4 => ?_) no)) no)
    cases ok with
    | false => exact wpAny_pure ⟨rfl, h4⟩
    | true =>
      exact wpAny_bind (wpAny_bind (wpAny_mono h4 (fun x s5 h5 => wpAny_bind (wpAny_mono h5 (fun _ s6 h6 => wpAny_pure (wpAny_pure ⟨rfl, h6⟩)) no)) no))

noncomputable def blockSt (tgs : List Str) (cap : List (Str × Nat)) (σ : St) : St := tgs.map (fun _ => none) ++ cap.map fun c => (σ[c.2]?).join
noncomputable def tComp (wi : TI) (g : TG) (tt : TT) (te : TE) (f : St → St) : TE := fun σ H Q => wi σ H fun J H1 => ∀ D, H1 D = none → ∃ W : Nat → Nat → Hp → List V → Prop, (∃ m, W 0 m (upd H1 D (.lst [])) []) ∧
  ∀ i m H ys, W i m H ys → H D = some (.lst ys) ∧ ((J.stop i H ∧ Q (.ref D) H) ∨ (J.go i H ∧ ∀ x H', J.yld i H x H' → g x (f σ) H' fun σ2 H2 => wk (f σ) σ2 ∧ tt σ2 H2 fun b H3 =>
    if b = true then te σ2 H3 fun v H4 => H4 D = some (.lst ys) ∧ ys.length < sizeLine ∧ ∃ m', m' < m ∧ W (i + 1) m' (upd H4 D (.lst (ys ++ [v]))) (ys ++ [v])
    else ∃ m', m' < m ∧ W (i + 1) m' H3 ys))

structure BlockOk (X : Cx) (scope : Scope) (tgs : List Str) (cap : List (Str × Nat)) : Prop where
  kind : scope.kind = .function
  nocell : (scope.names.all fun y => !(y.2 == NameKind.cell)) = true
  names : (scope.names.all fun y => !(y.2 == NameKind.local) || (scope.names.lookup y.1 == some .local)) = true
  free : (scope.names.all fun y => !(y.2 == NameKind.free) || (X.env.scope.names.lookup y.1 == some .cell) || (X.env.scope.names.lookup y.1 == some .free)) = true
  caps : (cap.all fun c => decide (X.N[c.2]? = some c.1) && (scope.names.lookup c.1 == some .free) && (decide (X.env.scope.names.lookup c.1 = some .cell) || decide (X.env.scope.names.lookup c.1 = some .free))) = true
  tgl : (tgs.all fun x => (scope.names.lookup x == some .local)) = true
section
variable {X : Cx} {scope : Scope} {tgs : List Str} {cap : List (Str × Nat)}
theorem BlockOk.cellAt (B : BlockOk X scope tgs cap) (ok : X.Ok) : ∀ y ∈ scope.names, y.2 = .free → ∃ c, X.env.cells.lookup y.1 = some c := fun y hy hk => by
  have q := List.all_eq_true.mp B.free y hy
  rw [hk] at q
  refine ok.has y.1 ?_
  simp only [beq_self_eq_true, Bool.not_true, Bool.false_or, Bool.or_eq_true, beq_iff_eq] at q
  exact q
theorem BlockOk.noc (B : BlockOk X scope tgs cap) : ∀ y ∈ scope.names, y.2 ≠ .cell := fun y hy hk => by
  have q := List.all_eq_true.mp B.nocell y hy
  rw [hk] at q
  simp at q
theorem BlockOk.locs (B : BlockOk X scope tgs cap) : ∀ y ∈ scope.names, y.2 = .local → scope.names.lookup y.1 = some .local := fun y hy hk => by
  have q := List.all_eq_true.mp B.names y hy
  rw [hk] at q
  simpa using q

theorem Inv.enter {pins : List (Addr × Obj)} {σ : St} {H : Hp} {s : Shared} {h1 : Heap} {tk : Nat} {fp : List Addr} (B : BlockOk X scope tgs cap) (I : Inv X pins σ H s) (hfp : ∀ b ∈ fp, FpOk X pins H b) (hlt : ∀ b ∈ fp, b < s.heap.objs.size)
    (hns : h1.Ns s.heap.objs.size (fun _ => none)) (old : ∀ b o, s.heap.get? b = some o → h1.get? b = some o) :
    Inv (X.block (tgs ++ cap.map (·.1)) scope s.heap.objs.size s H fp) [] (blockSt tgs cap σ) H { s with heap := h1, toks := tk } := by
  have cellsIn : ∀ x c, (clsOf X.env scope.names []).lookup x = some c → X.env.cells.lookup x = some c := fun x c e => cls_look e (B.cellAt I.ok)
  have kindIn : ∀ x, ((relabel scope X.env).names.lookup x = some .cell ∨ (relabel scope X.env).names.lookup x = some .free) → (x, NameKind.free) ∈ scope.names := fun x hx => by
    have go : ∀ k, (relabel scope X.env).names.lookup x = some k → (k = .cell ∨ k = .free) → (x, NameKind.free) ∈ scope.names := fun k hk hc => by
      obtain ⟨k', e1, e2⟩ := relabel_kind hk
      have m := lookup_mem e1
      rcases e2 with e2 | ⟨e2, _⟩
      · subst e2
        rcases hc with z | z
        · exact absurd z (B.noc _ m)
        · subst z; exact m
      · subst e2; exact m
    rcases hx with h | h
    · exact go _ h (.inl rfl)
    · exact go _ h (.inr rfl)
  have nocl : ∀ x c, X.env.cells.lookup x = some c → c ≠ s.heap.objs.size := fun x c e => by
    obtain ⟨v, q⟩ := I.cell x c e
    exact Nat.ne_of_lt q.lt
  refine ⟨⟨I.ok.mod, ?_, I.ok.glob, I.ok.blt, Nat.le_refl _, fun x y c e1 e2 => I.ok.inj x y c (cellsIn x c e1) (cellsIn y c e2), fun x hx => ?_, fun x c hf _ => absurd (show false = true from hf) Bool.false_ne_true, I.ok.hd, I.ok.frames, .inl rfl,
    fun b hb => ⟨Nat.ne_of_lt (hlt b hb), fun x c e => ?_⟩, I.bs, Nat.le_trans I.ok.bsz I.sz, fun b o e hb => ?_, fun b hb hf => ?_, I.stack, I.stkFree⟩,
    rfl, I.bare, Un.kept old, ⟨_, hns, fun i x v h2 h3 h4 => ?_⟩, fun x c e => ?_, ?_, fun x c e => I.freeC x c (cellsIn x c e), fun p hp => absurd (show p ∈ ([] : List (Addr × Obj)) from hp) (by simp), I.hok.kept old, ?_⟩
  · exact B.kind
  · exact cls_has (kindIn x hx)
  · exact (hfp b hb).2.2.2.2.1 x c (cellsIn x c e)
  · -- no object of the base is an iterator of ours
    rcases (hfp b hb).2.2.2.1 with z | z
    · exact I.ok.noex b o e z
    · have q := I.ok.bs b o e
      exact absurd (Nat.lt_of_lt_of_le (Heap.lt_size q.1) z) (Nat.lt_irrefl _)
  · have hf' : b ∈ frs X.stack := hf
    rcases List.mem_cons.mp (I.stkSub b hf') with z | z
    · exact (hfp b hb).2.1 z
    · exact (hfp b hb).2.2.1 z
  · -- a name that is known: one of the captured ones
    have hi : tgs.length ≤ i := by
      by_cases hl : i < tgs.length
      · exfalso
        unfold blockSt at h3
        rw [List.getElem?_append_left (by simpa using hl), List.getElem?_map] at h3
        cases e : tgs[i]? with
        | none => rw [e] at h3; cases h3
        | some z => rw [e] at h3; cases h3
      · omega
    unfold blockSt at h3
    rw [List.getElem?_append_right (by simpa using hi), List.length_map, List.getElem?_map] at h3
    have h2' : (tgs ++ cap.map (·.1))[i]? = some x := h2
    rw [List.getElem?_append_right hi, List.getElem?_map] at h2'
    cases e : cap[i - tgs.length]? with
    | none => rw [e] at h2'; cases h2'
    | some c =>
      rw [e] at h2' h3
      have hx : c.1 = x := by simpa using h2'
      have hv : (σ[c.2]?).join = some v := by simpa using h3
      have hm : c ∈ cap := List.mem_of_getElem? e
      have q := List.all_eq_true.mp B.caps c hm
      simp only [Bool.and_eq_true, decide_eq_true_eq, beq_iff_eq, Bool.or_eq_true] at q
      obtain ⟨⟨q1, q2⟩, q3⟩ := q
      have hσ : σ[c.2]? = some (some v) := by
        cases z : σ[c.2]? with
        | none => rw [z] at hv; cases hv
        | some o =>
          rw [z] at hv
          have : o = some v := by simpa using hv
          rw [this]
      obtain ⟨m, _, hl⟩ := I.loc
      obtain ⟨u, r, l⟩ := hl c.2 c.1 v q1 hσ (by
        rcases q3 with z | z
        · exact .inr (.inl z)
        · exact .inr (.inr z))
      subst hx
      refine ⟨u, r, .inr ⟨relabel_free q2, ?_⟩⟩
      have nl : ¬ X.env.kindOf c.1 = some .local := fun z => by
        rcases q3 with y | y
        · have : X.env.kindOf c.1 = some .cell := y
          rw [this] at z; cases z
        · have : X.env.kindOf c.1 = some .free := y
          rw [this] at z; cases z
      rcases l with ⟨l1, _⟩ | ⟨_, d, l2, l3⟩
      · exact absurd l1 nl
      · obtain ⟨d', e'⟩ := cls_has (env := X.env) (lookup_mem q2)
        have : d = d' := Option.some.inj (l2.symm.trans (cellsIn _ _ e'))
        subst this
        obtain ⟨oc, ho, hd⟩ := l3
        exact ⟨d, e', oc, old d oc ho, hd⟩
  · obtain ⟨v, oc, ho, hd⟩ := I.cell x c (cellsIn x c e)
    exact ⟨v, oc, old c oc ho, hd⟩
  · exact I.hok.fresh (Nat.le_refl _)
  · unfold blockSt
    show _ = (tgs ++ cap.map (·.1)).length
    simp

theorem Inv.leave {pins : List (Addr × Obj)} {σ σ' : St} {H H' : Hp} {s s' : Shared} {h2 : Heap} {fp : List Addr} {N : List Str} (I : Inv X pins σ H s) (hfp : ∀ b ∈ fp, FpOk X pins H b)
    (J : Inv (X.block N scope s.heap.objs.size s H fp) [] σ' H' s') (hs : Heap.SameBut s.heap.objs.size s'.heap h2) : Inv X pins σ H' { s' with heap := h2 } := by
  have u : Un (frs X.stack) fp H H' s.heap s'.heap := J.base
  have ne : ∀ b o, s.heap.get? b = some o → b ≠ s.heap.objs.size := fun b o e => Nat.ne_of_lt (Heap.lt_size e)
  have hf : H' s.heap.objs.size = none := J.free
  have k : ∀ b o, b ≠ s.heap.objs.size → s'.heap.get? b = some o → h2.get? b = some o := fun b o hb e => (hs.2 b hb).trans e
  have u2 : Un (frs X.stack) fp H H' s.heap h2 :=
    ⟨fun b o e n h1 h3 => k b o (ne b o e) (u.keep b o e n h1 h3), fun b o e n h1 h3 => let ⟨sl, q⟩ := u.slot b o e n h1 h3; ⟨sl, k b _ (ne b o e) q⟩, u.free, fun b o e h3 => let ⟨o', q⟩ := u.there b o e h3; ⟨o', k b o' (ne b o e) q⟩, u.tups, u.frzs, u.tbls⟩
  have hok : HOk X.prog X.w H' h2 := fun b ob e => (J.hok b ob e).stay (fun c v hc q => k c v (by
    rcases hc with z | z
    · subst z
      intro y
      rw [y, hf] at e; cases e
    · intro y
      rw [y, hf] at z; cases z) q) (fun _ q => q) fun _ _ q => q
  exact Inv.call' I (s' := { s' with heap := h2 }) J.os u2 hok J.bare fun b hb => by
    obtain ⟨f0, f1, f2, f3, f4, f5⟩ := hfp b hb
    exact ⟨f3, f1, f4, f5⟩

theorem pe_lc {elt tg iter : Expr} {ifs : List Expr} {pos : Pos} {wi : TI} {g : TG} {tt : TT} {te : TE} (hc : X.calm = true) (B : BlockOk X scope tgs cap) (hi : PI X tg iter wi)
    (hg : ∀ C s H fp, PG (X.block (tgs ++ cap.map (·.1)) scope C s H fp) tg g) (ht : ∀ C s H fp, PIfs (X.block (tgs ++ cap.map (·.1)) scope C s H fp) ifs tt) (he : ∀ C s H fp, PE (X.block (tgs ++ cap.map (·.1)) scope C s H fp) elt te)
    (hs : ∀ x, foldedSetIterable iter X.env x = pure x := by intro _; rfl) : PE X (.ListComp elt [⟨tg, iter, ifs, 0⟩] scope pos) (tComp wi g tt te (blockSt tgs cap)) := by
  intro pins s σ H Q I h
  rw [eval_ListComp]
  refine wpAny_comprehension_free (use := none) rfl hs (closure_eq (B.cellAt I.ok)) B.kind B.locs (thn (hi pins s σ H _ I h) fun v s1 h1 => thn h1 fun itv s2 h2 => ?_)
  obtain ⟨it, fp, tn, J, H2, e, I2, T, st2, f2, q⟩ := h2
  subst e
  have lt2 : ∀ b ∈ fp, b < s2.heap.objs.size := fun b hb => let ⟨o, e, _⟩ := T.obj _ _ st2 b hb; Heap.lt_size e
  have hD : H2 s2.heap.objs.size = none := I2.hok.fresh (Nat.le_refl _)
  obtain ⟨W, ⟨m0, w0⟩, turn⟩ := q s2.heap.objs.size hD
  refine wpAny_newObj_type ?_
  have I3 : Inv X pins σ (upd H2 s2.heap.objs.size (.lst [])) { s2 with heap := s2.heap.push { cls := .type "list", dict := none, data := .seq ([] : List Value).toArray } } := I2.lnew (t' := s2.toks) (ys := []) (its := []) .nil (Nat.zero_le _)
  have st3 : tn 0 (s2.heap.push { cls := .type "list", dict := none, data := .seq ([] : List Value).toArray }) := T.keep _ _ _ st2 fun b _ o e => Heap.get?_push_of_some _ e
  have nD : ∀ b ∈ fp, b ≠ s2.heap.objs.size := fun b hb => Nat.ne_of_lt (lt2 b hb)
  have f3 : ∀ b ∈ fp, FpOk X pins (upd H2 s2.heap.objs.size (.lst [])) b := fun b hb => ⟨by rw [upd_ne (nD b hb)]; exact (f2 b hb).1, (f2 b hb).2⟩
  generalize hs3 : ({ s2 with heap := s2.heap.push { cls := .type "list", dict := none, data := .seq ([] : List Value).toArray } } : Shared) = s3 at I3 st3 ⊢
  have st3' : tn 0 s3.heap := by rw [← hs3]; exact st3
  have lt3 : ∀ b ∈ fp, b < s3.heap.objs.size := fun b hb => let ⟨o, e, _⟩ := T.obj _ _ st3' b hb; Heap.lt_size e
  generalize hH3 : upd H2 s2.heap.objs.size (.lst []) = H3 at I3 f3 w0
  generalize s2.heap.objs.size = D at *
  refine wpAny_newFunctionEnv B.noc (by intro y hy; simp at hy) (fun h1 hns hsb => ?_) B.kind
  have old : ∀ b o, s3.heap.get? b = some o → h1.get? b = some o := fun b o e => hsb.extBut b o (Nat.ne_of_lt (Heap.lt_size e)) (Heap.get?_push_of_some _ e)
  have I4 := Inv.enter (tk := s3.toks + ([] : List (Str × Value)).length) (h1 := h1) B I3 f3 lt3 hns old
  have st4 : tn 0 h1 := T.keep _ _ _ st3' fun b _ o e => old b o e
  have fpB : ∀ {H' : Hp}, (∀ b ∈ fp, H' b = none) → ∀ b ∈ fp, FpOk (X.block (tgs ++ cap.map (·.1)) scope s3.heap.objs.size s3 H3 fp) [] H' b := fun {H'} hn b hb =>
    ⟨hn b hb, Nat.ne_of_lt (lt3 b hb), I4.ok.exfs b hb, .inl hb, fun x c e => (I4.ok.exf b hb).2 x c e, fun p hp => absurd (show p ∈ ([] : List (Addr × Obj)) from hp) (by simp)⟩
  have loop : codeAny (model X.prog X.w) X.A (.compLoop (.ListComp elt [⟨tg, iter, ifs, 0⟩] scope pos) 0 (.ref it) (.ref D) (compEnvC scope (clsOf X.env scope.names []) s3.heap.objs.size X.env))
      (compPost (model X.prog X.w) X.A X.xe none (EP X pins σ Q) (.ref D) s3.heap.objs.size) { s3 with heap := h1, toks := s3.toks + ([] : List (Str × Value)).length } := by
    refine compLoop_any (fun n s' => ∃ i H' ys, Inv (X.block (tgs ++ cap.map (·.1)) scope s3.heap.objs.size s3 H3 fp) [] (blockSt tgs cap σ) H' s' ∧ tn i s'.heap ∧ (∀ b ∈ fp, H' b = none) ∧ W i n H' ys) ?_ m0 ⟨0, H3, [], I4, st4, fun b hb => (f3 b hb).1, w0⟩
    rintro n s5 ⟨i, H5, ys, I5, st5, fr5, w5⟩
    obtain ⟨hl, ht5⟩ := turn i n H5 ys w5
    rcases ht5 with ⟨stop, qd⟩ | ⟨go, step⟩
    · refine thn (T.done (X.block (tgs ++ cap.map (·.1)) scope s3.heap.objs.size s3 H3 fp) rfl rfl rfl hc i [] s5 _ H5 _ I5 (fpB fr5) st5 stop) fun r s6 ⟨hr, I6⟩ => ?_
      subst hr
      obtain ⟨m6, n6, _⟩ := I6.loc
      exact ⟨m6, n6, fun h' hs' => ⟨.ref D, H5, Inv.leave I3 f3 I6 hs', rfl, qd⟩⟩
    · refine thn (T.item (X.block (tgs ++ cap.map (·.1)) scope s3.heap.objs.size s3 H3 fp) rfl rfl rfl hc i [] s5 _ H5 _ I5 (fpB fr5) st5 go) fun r s6 ⟨u, hr, h6⟩ => ?_
      subst hr
      refine thn h6 fun _ s7 ⟨x, H7, I7, r7, y7, st7, fr7⟩ => ?_
      have I7' := I7.pinned (fpB fr7) (T.obj _ _ st7)
      have again : ∀ {σ8 : St} {H8 : Hp} {s8 : Shared} {ys8 : List V}, Inv (X.block (tgs ++ cap.map (·.1)) scope s3.heap.objs.size s3 H3 fp) ([] ++ pinsAt fp s7.heap) σ8 H8 s8 → wk (blockSt tgs cap σ) σ8 → (∃ m', m' < n ∧ W (i + 1) m' H8 ys8) →
          ∃ m, m < n ∧ ∃ i H' ys, Inv (X.block (tgs ++ cap.map (·.1)) scope s3.heap.objs.size s3 H3 fp) [] (blockSt tgs cap σ) H' s8 ∧ tn i s8.heap ∧ (∀ b ∈ fp, H' b = none) ∧ W i m H' ys := fun {σ8 H8 s8 ys8} I8 k8 ⟨m', hm, w8⟩ => by
        refine ⟨m', hm, i + 1, H8, ys8, I8.unpinned.weak (wk_len k8) (wk_get k8), T.keep _ _ _ st7 fun b hb o e => (I8.pin (b, o) (List.mem_append_right _ (List.mem_append_right _ (mem_pinsAt hb e)))).1, fun b hb => ?_, w8⟩
        obtain ⟨o, e, d⟩ := T.obj _ _ st7 b hb
        exact (I8.pin (b, o) (List.mem_append_right _ (List.mem_append_right _ (mem_pinsAt hb e)))).2.1
      refine thn (hg _ _ _ _ _ s7 _ H7 x u _ I7' r7 (step x H7 y7)) fun _ s8 ⟨σ8, H8, I8, k8, q8⟩ => ?_
      refine thn (ht _ _ _ _ _ s8 σ8 H8 _ I8 q8) fun ok s9 ⟨H9, I9, q9⟩ => ?_
      cases ok with
      | false =>
        rw [if_neg Bool.false_ne_true] at q9 ⊢
        exact again I9 k8 q9
      | true =>
        rw [if_pos rfl] at q9 ⊢
        refine thn (he _ _ _ _ _ s9 σ8 H9 _ I9 q9) fun y sA ⟨yv, HA, IA, rA, hA, zA, qA⟩ => ?_
        exact thn (mt_append _ sA σ8 HA (.ref D) [yv] (.ref D) [y] (fun v H' => v = .non ∧ ∃ m', m' < n ∧ W (i + 1) m' H' (ys ++ [yv])) IA rfl (.cons rA .nil) ⟨D, ys, yv, rfl, rfl, hA, zA, rfl, qA⟩) fun _ sB ⟨_, HB, IB, _, _, qB⟩ => again IB k8 qB
  exact codeAny_compStart_list loop (T.self _ 0 _ _ _ st4 loop)
end
end L2
set_option Elab.async false
set_option linter.all false
set_option maxRecDepth 100000
set_option maxHeartbeats 4000000
namespace L2
open PySem PySem.Spec PyProof.Rows

noncomputable def Itf (n : Nat) (f : Nat → V) : It := ⟨fun i _ => i < n, fun i H x H' => H' = H ∧ x = f i, fun i _ => i = n⟩
theorem turn_walks {P : Program} {w : World} {K : PySem.W.Frag} {x : Str} {px : Pos} {it : Addr} {n : Nat} {f : Nat → V} {Pv : Nat → Value → Prop} {St : Nat → Heap → Prop}
    (W : ∀ A : Around, A.handled = none → Walks P w A it [it] [it] n Pv St) (hP : ∀ i v, Pv i v → RelV (f i) v) (hobj : ∀ i h, St i h → ∃ o, h.get? it = some o ∧ ∀ v, o.data ≠ .cell v)
    (hfr : ∀ i h h', St i h → (∀ o, h.get? it = some o → h'.get? it = some o) → St i h')
    (hself : ∀ (A : Around) (i : Nat) (s : Shared) (Q : Value → Shared → Prop) (E : Value → Shared → Prop), St i s.heap → Q (.ref it) s → wpAny (model P w) A (pyIter (.ref it)) Q E s) :
    Turn P w K (.Name x px) (Itf n f) [it] it St where
  mem := by simp
  obj := fun i h st b hb => by
    have e : b = it := by simpa using hb
    subst e
    exact hobj i h st
  keep := fun i h h' st k => hfr i h h' st fun o e => k it (by simp) o e
  item := by
    intro X hP' hw hK hc i pins s σ H E I hf st hg
    subst hP' hw hK
    obtain ⟨f0, f1, f2, f3, f4, f5⟩ := hf it (by simp)
    refine (W X.A (I.ok.hd hc)).item i s _ _ hg st fun v h' tk hv st' kk => ?_
    have I1 : Inv X pins σ H { s with heap := h', toks := tk } := I.turned (fun b o hb e => kk b o (by simpa using hb) e) f0 f1 f3 f4 f5
    refine ⟨v, rfl, wpAny_of_eq (a := ()) (by rfl) ⟨f i, H, I1, hP i v hv, ⟨rfl, rfl⟩, st', fun b hb => (hf b hb).1⟩⟩
  done := by
    intro X hP' hw hK hc i pins s σ H E I hf st hg
    subst hP' hw hK
    obtain ⟨f0, f1, f2, f3, f4, f5⟩ := hf it (by simp)
    have e : i = n := hg
    subst e
    exact (W X.A (I.ok.hd hc)).done s _ _ st fun h' tk kk => ⟨rfl, I.turned (fun b o hb e => kk b o (by simpa using hb) e) f0 f1 f3 f4 f5⟩
  self := fun A i s Q E st h => hself A i s Q E st h

noncomputable def signV (z : Str) (i : Nat) : V := .str ⟨#[z.cps.getD i 0]⟩
theorem signAt_rel {z : Str} {i : Nat} {v : Value} (h : SignAt z i v) : RelV (signV z i) v := by
  obtain ⟨c, u, h1, h2⟩ := h
  subst h2
  refine ⟨u, ?_⟩
  have : z.cps.getD i 0 = c := by rw [Array.getD_eq_getD_getElem?, h1]; rfl
  rw [this]
theorem turn_str {P : Program} {w : World} {K : PySem.W.Frag} {x : Str} {px : Pos} {it : Addr} {z : Str} {t : Tok} {ty : String} (hty : ty = "str_ascii_iterator" ∨ ty = "str_iterator") :
    Turn P w K (.Name x px) (Itf z.cps.size (signV z)) [it] it (fun i h => h.IsStrIter it ty z t i) := by
  rcases hty with e | e
  · subst e
    exact turn_walks (fun A hA => Walks.strAscii hA it z t) (fun i v h => signAt_rel h) (fun i h st => let ⟨o, e, _, d⟩ := st; ⟨o, e, fun v q => by rw [d] at q; cases q⟩)
      (fun i h h' st k => let ⟨o, e, r⟩ := st; ⟨o, k o e, r⟩) fun A i s Q E st q => wpAny_pyIter_striter_ascii st q
  · subst e
    exact turn_walks (fun A hA => Walks.strWide hA it z t) (fun i v h => signAt_rel h) (fun i h st => let ⟨o, e, _, d⟩ := st; ⟨o, e, fun v q => by rw [d] at q; cases q⟩)
      (fun i h h' st k => let ⟨o, e, r⟩ := st; ⟨o, k o e, r⟩) fun A i s Q E st q => wpAny_pyIter_striter_wide st q
section
variable {X : Cx} {x : Str} {px : Pos}
noncomputable def iStr (tl : TE) : TI := fun σ H R => tl σ H fun v H1 => ∃ z : Str, v = .str z ∧ R (Itf z.cps.size (signV z)) H1
theorem pi_str {l : Expr} {tl : TE} (hl : PE X l tl) : PI X (.Name x px) l (iStr tl) := by
  intro pins s σ H R I h
  refine thn (hl pins s σ H _ I h) fun v s1 ⟨y, H1, I1, r1, q1⟩ => ?_
  obtain ⟨z, e, q⟩ := q1
  subst e
  obtain ⟨t, e⟩ := r1
  subst e
  have fin : ∀ ty : String, (ty = "str_ascii_iterator" ∨ ty = "str_iterator") → PIE X pins σ (.Name x px) R (.ref s1.heap.objs.size) { s1 with heap := s1.heap.push { cls := .type ty, data := .fields #[.str z t, .int 0 0] } } := fun ty hty => by
    refine ⟨s1.heap.objs.size, [s1.heap.objs.size], _, _, H1, rfl, I1.kept (t' := s1.toks) fun b o e => Heap.get?_push_of_some _ e, turn_str (t := t) hty, ⟨_, Heap.get?_push_size _ rfl, rfl, rfl⟩, fun b hb => ?_, q⟩
    have e : b = s1.heap.objs.size := by simpa using hb
    subst e
    exact I1.fpOk (Nat.le_refl _) (I1.hok.fresh (Nat.le_refl _))
  cases ha : z.cps.all (· < 128) with
  | false => exact wpAny_pyIter_wide ha (fin _ (.inr rfl))
  | true => exact wpAny_pyIter_ascii ha (fin _ (.inl rfl))
end

section
variable {X : Cx}
noncomputable def rSlS : V → Option Int → Option Int → Hp → VK → Prop := fun x lo hi H Q => ∃ z : Str, x = .str z ∧ z.length ≤ sizeLine ∧ Q (.str (Txt.slice z lo hi)) H
theorem sl_str : SlR X rSlS := by
  intro pins s σ H x v vl vu lo hi sl Q I rx hs pl pu h
  obtain ⟨z, e, hz, q⟩ := h
  subst e
  obtain ⟨t, e⟩ := rx
  subst e
  refine ⟨"str", _, F.slot_str_getitem.lookup, typeIs_str _ _ _, ?_⟩
  have fin : ∀ (t' : Tok) (k : Nat), EP X pins σ Q (.str (Txt.slice z lo hi) t') { s with toks := k } := fun t' k => ⟨.str _, H, I.tok k, ⟨t', rfl⟩, q⟩
  cases pl with
  | none =>
    cases pu with
    | none => exact wpAny_getItem_str_slice (l := none) (u := none) (st := none) hs rfl (post_val_or_str ⟨Nat.le_trans (Txt.slice_le z _ _) hz, fin⟩)
    | int j uj => exact wpAny_getItem_str_slice (l := none) (u := some (j, uj)) (st := none) hs rfl (post_val_or_str ⟨Nat.le_trans (Txt.slice_le z _ _) hz, fin⟩)
  | int i ui =>
    cases pu with
    | none => exact wpAny_getItem_str_slice (l := some (i, ui)) (u := none) (st := none) hs rfl (post_val_or_str ⟨Nat.le_trans (Txt.slice_le z _ _) hz, fin⟩)
    | int j uj => exact wpAny_getItem_str_slice (l := some (i, ui)) (u := some (j, uj)) (st := none) hs rfl (post_val_or_str ⟨Nat.le_trans (Txt.slice_le z _ _) hz, fin⟩)

theorem strsAre_of : ∀ {ys : List Str} {us : List Value}, Vals (ys.map V.str) us → StrsAre us ys
  | [], _, r => by
    rw [List.map_nil] at r; cases r; exact .nil
  | y :: ys, _, r => by
    rw [List.map_cons] at r
    cases r with
    | cons r1 r2 =>
      obtain ⟨t, e⟩ := r1
      subst e
      exact .cons y t (strsAre_of r2)
noncomputable def rJoin (K : PySem.W.Frag) : V → List V → Hp → VK → Prop := fun x vs H Q => ∃ (z : Str) (l : Addr) (ys : List Str), x = .str z ∧ vs = [.ref l] ∧ SqL K H l (ys.map V.str) ∧ (ys.map (·.length)).sum + ys.length * z.length ≤ 16777216 ∧ Q (.str (Txt.join z ys)) H
theorem mt_join : MtR X "str.join" (rJoin X.K) := by
  intro pins s σ H x vs v us Q I rx rv h
  obtain ⟨z, l, ys, e1, e2, hl, hz, q⟩ := h
  subst e1 e2
  obtain ⟨t, e⟩ := rx
  subst e
  obtain ⟨u, e, ru⟩ := rv.one
  subst e
  cases ru
  obtain ⟨its, r, pl, _⟩ := I.list hl
  exact join_list pl.isList (by simpa using strsAre_of r) hz fun t' k => ⟨.str _, H, I.tok k, ⟨t', rfl⟩, q⟩
theorem glued_nil (ys : List Str) : (Txt.join Str.empty ys).cps.toList = (ys.map (·.cps.toList)).flatten := by
  unfold Txt.join
  rw [PySem.StrLaws.glued_eq_join]
  induction ys with
  | nil => rfl
  | cons y r ih =>
    cases r with
    | nil => simp [Str.join]
    | cons y2 r2 =>
      show (y ++ Str.empty ++ Str.join Str.empty (y2 :: r2)).cps.toList = _
      rw [List.map_cons, List.flatten_cons, ← ih]
      show (y.cps ++ Str.empty.cps ++ (Str.join Str.empty (y2 :: r2)).cps).toList = _
      simp [Str.empty]
end
end L2
set_option Elab.async false
set_option linter.all false
set_option maxRecDepth 100000
set_option maxHeartbeats 4000000
namespace L2
open PySem PySem.Spec PyProof.Rows
inductive EqD (K : PySem.W.Frag) (H : Hp) : Nat → V → V → Bool → Prop
  | flat {n : Nat} {x y : V} : flatV x = true → flatV y = true → EqD K H n x y (eqV x y)
  | same {n : Nat} {a : Addr} : EqD K H n (.ref a) (.ref a) true
  | lists {n : Nat} {a b : Addr} {xs ys : List V} {e : Nat → Bool} : SqL K H a xs → SqL K H b ys → xs.length = ys.length → (∀ (j : Nat) x y, xs[j]? = some x → ys[j]? = some y → EqD K H n x y (e j)) → a ≠ b →
      EqD K H (n + 1) (.ref a) (.ref b) ((List.range xs.length).all e)
  | tups {n : Nat} {a b : Addr} {xs ys : List V} {e : Nat → Bool} : SqT K H a xs → SqT K H b ys → (∀ (j : Nat) x y, xs[j]? = some x → ys[j]? = some y → EqD K H n x y (e j)) → a ≠ b →
      EqD K H (n + 1) (.ref a) (.ref b) ((List.range (min xs.length ys.length)).all e && xs.length == ys.length)
theorem EqD.at {X : Cx} {pins : List (Addr × Obj)} {σ : St} {H : Hp} {s : Shared} (I : Inv X pins σ H s) {n : Nat} {x y : V} {b : Bool} (h : EqD X.K H n x y b) :
    ∀ {A : Around} {u v : Value}, A.units + n < cLine → RelV x u → RelV y v → SeqAt.EqAt A s u v b := by
  induction h with
  | flat fx fy => intro A u v _ rx ry; exact eqAt_V rx ry fx fy
  | same =>
    intro A u v _ rx ry
    cases rx
    cases ry
    exact SeqAt.EqAt.same _
  | @lists n a c xs ys e ha hb hl hi hne ih =>
    intro A u v hu rx ry
    cases rx
    cases ry
    obtain ⟨its, r1, p1, _⟩ := I.list ha
    obtain ⟨its2, r2, p2, _⟩ := I.list hb
    have l1 := r1.length
    have l2 := r2.length
    refine SeqAt.EqAt.of_refs hne ?_
    have q := SeqAt.RcAt.lists (A := A) (e := e) p1.isList p2.isList (by rw [List.size_toArray, List.size_toArray]; omega) (by omega) fun j h1 h2 => by
      rw [List.size_toArray] at h1 h2
      have e1 : xs[j]? = some xs[j] := List.getElem?_eq_getElem (by omega)
      have e2 : ys[j]? = some ys[j] := List.getElem?_eq_getElem (by omega)
      obtain ⟨w1, g1, rr1⟩ := r1.get e1
      obtain ⟨w2, g2, rr2⟩ := r2.get e2
      have g1' : its.toArray[j] = w1 := by
        have := (List.getElem?_eq_some_iff.mp g1).2
        simpa using this
      have g2' : its2.toArray[j] = w2 := by
        have := (List.getElem?_eq_some_iff.mp g2).2
        simpa using this
      rw [g1', g2']
      exact ih j _ _ e1 e2 (by show A.units + 1 + n < cLine; omega) rr1 rr2
    rw [List.size_toArray, ← l1] at q
    exact q
  | @tups n a c xs ys e ha hb hi hne ih =>
    intro A u v hu rx ry
    cases rx
    cases ry
    obtain ⟨its, r1, p1, _⟩ := I.tuple ha
    obtain ⟨its2, r2, p2, _⟩ := I.tuple hb
    have l1 := r1.length
    have l2 := r2.length
    refine SeqAt.EqAt.of_refs hne ?_
    have q := SeqAt.RcAt.tuples (A := A) (e := e) (show s.heap.IsTuple a its.toArray from p1) (show s.heap.IsTuple c its2.toArray from p2) (by omega) fun j h1 h2 => by
      rw [List.size_toArray] at h1 h2
      have e1 : xs[j]? = some xs[j] := List.getElem?_eq_getElem (by omega)
      have e2 : ys[j]? = some ys[j] := List.getElem?_eq_getElem (by omega)
      obtain ⟨w1, g1, rr1⟩ := r1.get e1
      obtain ⟨w2, g2, rr2⟩ := r2.get e2
      have g1' : its.toArray[j] = w1 := by
        have := (List.getElem?_eq_some_iff.mp g1).2
        simpa using this
      have g2' : its2.toArray[j] = w2 := by
        have := (List.getElem?_eq_some_iff.mp g2).2
        simpa using this
      rw [g1', g2']
      exact ih j _ _ e1 e2 (by show A.units + 1 + n < cLine; omega) rr1 rr2
    rw [List.size_toArray, List.size_toArray, ← l1, ← l2] at q
    exact q
section
variable {X : Cx}
theorem EqD.items {pins : List (Addr × Obj)} {σ : St} {H : Hp} {s : Shared} (I : Inv X pins σ H s) {n : Nat} {A : Around} (hu : A.units + 1 + n < cLine) {xs ys : List V} {its its2 : List Value} (r1 : Vals xs its) (r2 : Vals ys its2) {e : Nat → Bool}
    (h : ∀ (j : Nat) x y, xs[j]? = some x → ys[j]? = some y → EqD X.K H n x y (e j)) (j : Nat) (h1 : j < its.toArray.size) (h2 : j < its2.toArray.size) : SeqAt.EqAt A.in1 s its.toArray[j] its2.toArray[j] (e j) := by
  have l1 := r1.length
  have l2 := r2.length
  rw [List.size_toArray] at h1 h2
  have e1 : xs[j]? = some xs[j] := List.getElem?_eq_getElem (by omega)
  have e2 : ys[j]? = some ys[j] := List.getElem?_eq_getElem (by omega)
  obtain ⟨w1, g1, rr1⟩ := r1.get e1
  obtain ⟨w2, g2, rr2⟩ := r2.get e2
  have g1' : its.toArray[j] = w1 := by
    have := (List.getElem?_eq_some_iff.mp g1).2
    simpa using this
  have g2' : its2.toArray[j] = w2 := by
    have := (List.getElem?_eq_some_iff.mp g2).2
    simpa using this
  rw [g1', g2']
  exact EqD.at I (h j _ _ e1 e2) (by show A.units + 1 + n < cLine; exact hu) rr1 rr2
noncomputable def rEqL (K : PySem.W.Frag) (neg : Bool) : R2 := fun x y H Q => ∃ a b xs ys e, x = .ref a ∧ y = .ref b ∧ SqL K H a xs ∧ SqL K H b ys ∧ (∀ (j : Nat) x y, xs[j]? = some x → ys[j]? = some y → EqD K H 8 x y (e j)) ∧
  Q (.bl (if neg then !(xs.length == ys.length && (List.range xs.length).all e) else (xs.length == ys.length && (List.range xs.length).all e))) H
theorem op_eqL (hu : X.A.units + 64 < cLine) : OpR X (compareOp .Eq) (rEqL X.K false) := by
  intro pins s σ H x y v u Q I rx ry h
  obtain ⟨a, b, xs, ys, e, e1, e2, ha, hb, hi, q⟩ := h
  subst e1 e2
  cases rx
  cases ry
  obtain ⟨its, r1, p1, _⟩ := I.list ha
  obtain ⟨its2, r2, p2, _⟩ := I.list hb
  have l1 := r1.length
  have l2 := r2.length
  by_cases hl : xs.length = ys.length
  · refine SeqAt.eq_listAt (e := e) p1.isList p2.isList (by rw [List.size_toArray, List.size_toArray]; omega) (by omega) (EqD.items I (by omega) r1 r2 hi) ⟨.bl _, H, I, rfl, ?_⟩
    rw [List.size_toArray, ← l1]
    have : (xs.length == ys.length) = true := by simpa using hl
    rw [this] at q
    exact q
  · refine SeqAt.eq_list_lengthsAt p1.isList p2.isList (by rw [List.size_toArray, List.size_toArray, ← l1, ← l2]; simpa using hl) (by omega) ⟨.bl _, H, I, rfl, ?_⟩
    have : (xs.length == ys.length) = false := by simpa using hl
    rw [this] at q
    exact q
theorem op_neL (hu : X.A.units + 64 < cLine) : OpR X (compareOp .NotEq) (rEqL X.K true) := by
  intro pins s σ H x y v u Q I rx ry h
  obtain ⟨a, b, xs, ys, e, e1, e2, ha, hb, hi, q⟩ := h
  subst e1 e2
  cases rx
  cases ry
  obtain ⟨its, r1, p1, _⟩ := I.list ha
  obtain ⟨its2, r2, p2, _⟩ := I.list hb
  have l1 := r1.length
  have l2 := r2.length
  by_cases hl : xs.length = ys.length
  · refine SeqAt.RcNeAt.lists (e := e) p1.isList p2.isList (by rw [List.size_toArray, List.size_toArray]; omega) (by omega) (EqD.items I (by omega) r1 r2 hi) _ _ _ _ ⟨.bl _, H, I, rfl, ?_⟩
    rw [List.size_toArray, ← l1]
    have : (xs.length == ys.length) = true := by simpa using hl
    rw [this] at q
    exact q
  · refine SeqAt.RcNeAt.lists_lengths p1.isList p2.isList (by rw [List.size_toArray, List.size_toArray, ← l1, ← l2]; simpa using hl) (by omega) _ _ _ _ ⟨.bl _, H, I, rfl, ?_⟩
    have : (xs.length == ys.length) = false := by simpa using hl
    rw [this] at q
    exact q
end
end L2
set_option Elab.async false
set_option linter.all false
set_option maxRecDepth 100000
set_option maxHeartbeats 4000000
namespace L2
open PySem PySem.Spec PyProof.Rows
section
variable {X : Cx}
theorem call_isinst : CallR X (.builtin "isinstance") (fun xs H Q => ∃ x T ty b, xs = [x, .ty T] ∧ TyOf X.K H x ty ∧ PySem.W.kitOne X.K ty (.type T) = some b ∧ Q (.bl b) H) := by
  intro pins s σ H xs us Q I r h
  obtain ⟨x, T, ty, b, e, t, k, q⟩ := h
  subst e
  obtain ⟨u1, u2, e, r1, r2⟩ := vals2 r
  subst e
  cases r2
  exact isinst_ok I r1 t k fun tk => ⟨.bl b, H, I.tok tk, rfl, q⟩
theorem kit_same {K : PySem.W.Frag} (T : String) : PySem.W.kitOne K (.type T) (.type T) = some true := by
  unfold PySem.W.kitOne
  rw [if_pos (by simp)]
theorem all_range (bs : List Bool) : (List.range bs.length).all (fun i => bs.getD i false) = bs.all id := by
  rw [Bool.eq_iff_iff]
  simp only [List.all_eq_true, List.mem_range]
  constructor
  · intro h x hx
    obtain ⟨i, hi, e⟩ := List.mem_iff_getElem.mp hx
    have q := h i hi
    rw [List.getD_eq_getElem?_getD, List.getElem?_eq_getElem hi, Option.getD_some, e] at q
    exact q
  · intro h i hi
    rw [List.getD_eq_getElem?_getD, List.getElem?_eq_getElem hi, Option.getD_some]
    exact h _ (List.getElem_mem hi)
theorem call_all (hc : X.calm = true) : CallR X (.builtin "all") (fun xs H Q => ∃ (l : Addr) (bs : List Bool), xs = [.ref l] ∧ SqL X.K H l (bs.map V.bl) ∧ Q (.bl (bs.all id)) H) := by
  intro pins s σ H xs us Q I r h
  obtain ⟨l, bs, e, hl, q⟩ := h
  subst e
  obtain ⟨u, e, ru⟩ := vals1 r
  subst e
  cases ru
  obtain ⟨its, rv, pl, hz⟩ := I.list hl
  have hlen := rv.length
  rw [List.length_map] at hlen
  have ne : l ≠ s.heap.objs.size := by
    obtain ⟨o, ho, _⟩ := pl.isList
    exact Nat.ne_of_lt (Heap.lt_size ho)
  refine call_all_walk (wpAny_pyIter_list pl.isList ?_)
  refine ⟨s.heap.objs.size, _, _, _, _, _, (fun i => bs.getD i false), rfl, Walks.list (show X.A.in1.handled = none from I.ok.hd hc) s.heap.objs.size l ne its.toArray, ⟨⟨_, Heap.get?_push_size _ rfl, rfl, rfl⟩, pl.isList.push _⟩, ?_, fun h' tk hk => ?_⟩
  · intro i v s' Q' E' hP hQ
    have hP' : its[i]? = some v := by simpa using hP
    have hi : i < bs.length := by
      have := (List.getElem?_eq_some_iff.mp hP').1
      omega
    have e1 : (bs.map V.bl)[i]? = some (.bl (bs.getD i false)) := by
      rw [List.getElem?_map, List.getElem?_eq_getElem hi, List.getD_eq_getElem?_getD, List.getElem?_eq_getElem hi]; rfl
    obtain ⟨u, hu, ru⟩ := rv.get e1
    rw [hP'] at hu
    cases hu
    cases ru
    exact wpAny_truthy_bool hQ
  · have hs : its.toArray.size = bs.length := by rw [List.size_toArray]; exact hlen.symm
    rw [hs, all_range]
    exact ⟨.bl _, H, I.kept fun b o e => hk b o (by
      have := Heap.lt_size e
      simp only [List.mem_singleton]
      exact Nat.ne_of_lt this) (Heap.get?_push_of_some _ e), rfl, q⟩
abbrev tabAt (K : PySem.W.Frag) (T : Addr) (D : List (Str × KTD.Dat)) : Prop := KTD.tabLook (KTD.datLooks fun a => K.lookup a) (fun a => K.lookup a) T D = true
theorem op_in_tab {T : Addr} {D : List (Str × KTD.Dat)} (hT : tabAt X.K T D) : OpR X (compareOp .In) (fun x y H Q => ∃ z, x = .str z ∧ y = .ref T ∧ Q (.bl (KTD.inKeys z D)) H) := by
  intro pins s σ H x y v u Q I rx ry h
  obtain ⟨z, e1, e2, q⟩ := h
  subst e1 e2
  obtain ⟨t, e⟩ := rx
  subst e
  cases ry
  exact KTD.in_text (h₀ := X.base) ⟨KTD.text_of_look (get := fun a => X.K.lookup a) (fun a o e => I.mod.kin a o e) hT, I.bk⟩ ⟨.bl _, H, I.tok _, rfl, q⟩
theorem op_mul_str : OpR X (binaryOp .Mult) (fun x y H Q => ∃ z n, x = .str z ∧ y = .int n ∧ MulOk z n ∧ Q (.str (Txt.mul z n)) H) := by
  intro pins s σ H x y v u Q I rx ry h
  obtain ⟨z, n, e1, e2, hm, q⟩ := h
  subst e1 e2
  obtain ⟨t, e⟩ := rx
  subst e
  obtain ⟨t', e⟩ := ry
  subst e
  exact SB.mul hm fun t' k => ⟨.str _, H, I.tok k, ⟨t', rfl⟩, q⟩
noncomputable def gTupL (K : PySem.W.Frag) (n : Nat) (t : TGs) : TG := fun v σ H Q => ∃ a xs, v = .ref a ∧ SqL K H a xs ∧ xs.length = n ∧ t xs σ H Q
theorem pg_tupL {es : List Expr} {k : Nat} {t : TGs} {n : Nat} {pos : Pos} (hc : X.calm = true) (h : PGs X es t)
    (hn : (assignEach es X.env).length = n := by rfl) (hst : (assignEach es X.env).findIdx? (·.1) = none := by rfl) : PG X (.Tuple es k pos) (gTupL X.K n t) := by
  intro pins s σ H v u Q I r hw
  obtain ⟨a, xs, e1, hq, hl, hw⟩ := hw
  subst e1
  cases r
  obtain ⟨its, rv, ht, hz⟩ := I.list hq
  rw [assign_Tuple]
  refine wpAny_bind (wpAny_standAt ?_)
  unfold unpack
  have hsz : (assignEach es X.env).length = its.toArray.size := by rw [hn, List.size_toArray, ← rv.length, hl]
  rw [hsz, hst]
  refine wpAny_bind (wpAny_holding (PySem.W.kun_itemsOf (I.ok.hd hc) ht.isList fun h' hx => ?_))
  have I1 : Inv X pins σ H { s with heap := h' } := I.kept (t' := s.toks) fun b o e => hx b o (Nat.ne_of_lt (Heap.lt_size e)) e
  exact h pins _ σ H xs _ Q I1 (by simpa using rv) hw
end
end L2
set_option Elab.async false
set_option linter.all false
set_option maxRecDepth 100000
set_option maxHeartbeats 4000000
namespace L2
open PySem PySem.Spec PyProof.Rows
theorem Inv.turned2 {X : Cx} {pins : List (Addr × Obj)} {σ : St} {H : Hp} {s : Shared} {h' : Heap} {t' : Nat} {e it T : Addr} {o : HO} (I : Inv X pins σ H s) (k : ∀ b o, b ≠ e → b ≠ it → s.heap.get? b = some o → h'.get? b = some o)
    (f1 : FpOk X pins H e) (f2 : FpOk X pins H it) (hT : s.heap.objs.size ≤ T) (new : ObjOk X.prog X.w (upd H T o) h' T o) : Inv X pins σ (upd H T o) { s with heap := h', toks := t' } := by
  have hn : H T = none := I.hok.fresh hT
  have nT : ∀ b u, s.heap.get? b = some u → b ≠ T := fun b u q => Nat.ne_of_lt (Nat.lt_of_lt_of_le (Heap.lt_size q) hT)
  have n1 : ∀ b u, H b = some u → b ≠ e := fun b u q z => by rw [z, f1.1] at q; cases q
  have n2 : ∀ b u, H b = some u → b ≠ it := fun b u q z => by rw [z, f2.1] at q; cases q
  have kk : ∀ b u, b ∉ [e, it] → s.heap.get? b = some u → h'.get? b = some u := fun b u hc q => k b u (fun z => hc (by simp [z])) (fun z => hc (by simp [z])) q
  refine I.step (g' := s.gens) (d' := s.drawn) (ch := [e, it]) (fun b hb => ?_) (fun b u _ _ hc q _ => kk b u hc q) (fun b u _ _ hc q _ => ⟨u.slots, kk b u hc q⟩) (fun b u _ q n => by rw [upd_ne (nT b u q)]; exact n)
    (fun b u hc q => ⟨u, kk b u hc q⟩) (fun b xs q => by rw [upd_ne (ne_of_none q hn)]; exact q) (fun b u xs q => by rw [upd_ne (ne_of_none q hn)]; exact q) (fun b ps q => ⟨#[], by rw [upd_ne (ne_of_none q hn), q]; simp⟩) (fun m hm => ?_) (fun b u q => ?_) I.bare
  · have z : b = e ∨ b = it := by simpa using hb
    rcases z with z | z
    · subst z
      obtain ⟨_, a2, _, a4, a5, a6⟩ := f1
      exact ⟨a4, a2, a5, a6⟩
    · subst z
      obtain ⟨_, a2, _, a4, a5, a6⟩ := f2
      exact ⟨a4, a2, a5, a6⟩
  · obtain ⟨ob, es, ep, ho, r⟩ := hm
    exact ⟨ob, es, ep, k _ ob (Ne.symm f1.2.1) (Ne.symm f2.2.1) ho, r⟩
  · by_cases hb : b = T
    · subst hb
      rw [upd_same] at q
      cases q
      exact new
    · rw [upd_ne hb] at q
      refine (I.hok b u q).stay (fun c v hc z => k c v ?_ ?_ z) (fun c z => by rw [upd_ne (ne_of_none z hn)]; exact z) fun c xs z => by rw [upd_ne (ne_of_none z hn)]; exact z
      · rcases hc with z | z
        · rw [z]; exact n1 b u q
        · exact n1 c _ z
      · rcases hc with z | z
        · rw [z]; exact n2 b u q
        · exact n2 c _ z

section
variable {X : Cx} {elts : List Expr} {k : Nat} {tpos : Pos}
end
end L2
set_option Elab.async false
set_option linter.all false
set_option maxRecDepth 100000
set_option maxHeartbeats 4000000
namespace L2
open PySem PySem.Spec PyProof.Rows
structure Fn (P : Program) (w : World) (K : PySem.W.Frag) (mg : Str → Option Value) (base : Heap) (x : Str) (ps : List Str) (k : Nat) (sp : Sp) : Prop where
  ex : ∃ f fd, FnOk P w K mg base CX0 k f fd ps sp ∧ mg x = some (.ref f) ∧ PySem.W.keepIn K (.ref f) = true ∧ Binds K fd ps []
section
variable {X : Cx}
theorem pe_fn {x : Str} {ps : List Str} {k : Nat} {sp : Sp} {e : Expr} {es : List Expr} {t : TA} {p pos : Pos} (F : Fn X.prog X.w X.K X.mg X.base x ps k sp) (hr : Room k X.A) (hg : Gl X x) (ha : PA X (e :: es) t)
    (hdb : (x == ("__debug__" : Str)) = false := by decide) (he : starEach (e :: es) X.env = (false, eval e X.env) :: starEach es X.env := by rfl) (hpl : (backTo pos (starEach es X.env)).any (·.1) = false := by rfl) :
    PE X (.Call (.Name x p) (e :: es) [] pos) (tCall sp [] E0 t) := by
  obtain ⟨f, fd, G, hm, hk, hb⟩ := F.ex
  exact pe_call G hr hg hm hk hb .nil pass0 ha hdb he hpl
end
section
variable {σ : St} {H : Hp} {Q : VK} {K : PySem.W.Frag}
theorem i_var {i : Nat} {v : V} (h : σ[i]? = some (some v)) (q : Q v H) : tVar i σ H Q := ⟨v, h, q⟩
theorem i_c {v : V} (q : Q v H) : tC v σ H Q := q
theorem i_op {r : R2} {ta tb : TE} (q : ta σ H fun x H1 => tb σ H1 fun y H2 => r x y H2 Q) : tOp r ta tb σ H Q := q
theorem i_rI0 {g : Int → Int → V} {i j : Int} (q : Q (g i j) H) : rI0 g (.int i) (.int j) H Q := ⟨i, j, rfl, rfl, q⟩
theorem i_rI {C : Int → Int → Prop} {g : Int → Int → V} {i j : Int} (c : C i j) (q : Q (g i j) H) : rI C g (.int i) (.int j) H Q := ⟨i, j, rfl, rfl, c, q⟩
theorem i_eq {x y : V} (h : scal x y = true) (q : Q (.bl (decide (x = y))) H) : rEq x y H Q := ⟨h, q⟩
theorem i_ne {x y : V} (h : scal x y = true) (q : Q (.bl (!decide (x = y))) H) : rNe x y H Q := ⟨h, q⟩
theorem i_test {t : TE} {R : Bool → Hp → Prop} (q : t σ H fun x H' => ∃ k, x = .bl k ∧ R k H') : tTest t σ H R := q
theorem i_tB {t : TE} {R : Bool → Hp → Prop} (q : t σ H fun x H' => ∃ k, x = .bl k ∧ R k H') : tB t σ H R := q
theorem i_and {t u : TT} {R : Bool → Hp → Prop} (q : t σ H fun c H1 => if c = true then u σ H1 R else R false H1) : tAnd t u σ H R := q
theorem i_or {t u : TT} {R : Bool → Hp → Prop} (q : t σ H fun c H1 => if c = true then R true H1 else u σ H1 R) : tOr t u σ H R := q
theorem i_not {t : TT} {R : Bool → Hp → Prop} (q : t σ H fun c H1 => R (!c) H1) : tNot t σ H R := q
theorem i_andV {ta tb : TE} (q : ta σ H fun x H1 => ∃ c, x = .bl c ∧ if c = true then tb σ H1 Q else Q (.bl false) H1) : tAndV ta tb σ H Q := q
theorem i_orV {ta tb : TE} (q : ta σ H fun x H1 => ∃ c, x = .bl c ∧ if c = true then Q (.bl true) H1 else tb σ H1 Q) : tOrV ta tb σ H Q := q
theorem i_notV {ta : TE} (q : ta σ H fun x H1 => ∃ c, x = .bl c ∧ Q (.bl (!c)) H1) : tNotV ta σ H Q := q
theorem i_ifE {t : TT} {ta tb : TE} (q : t σ H fun c H1 => if c = true then ta σ H1 Q else tb σ H1 Q) : tIf t ta tb σ H Q := q
theorem i_nil {R : List V → Hp → Prop} (q : R [] H) : tNil σ H R := q
theorem i_cons {te : TE} {tr : TA} {R : List V → Hp → Prop} (q : te σ H fun x H1 => tr σ H1 fun xs H2 => R (x :: xs) H2) : tCons te tr σ H R := q
theorem i_call {sp : Sp} {E : XK} {t : TA} (q : t σ H fun vs H1 => sp vs H1 Q E) : tCall sp [] E t σ H Q := by
  show t σ H fun vs H1 => sp (vs ++ []) H1 Q E
  simpa only [List.append_nil] using q
theorem i_cb {r : List V → Hp → VK → Prop} {t : TA} (q : t σ H fun vs H1 => r vs H1 Q) : tCB r t σ H Q := q
theorem i_tup {t : TA} (q : t σ H fun xs H1 => xs.length ≤ sizeLine ∧ ∀ p, H1 p = none → Q (.ref p) (upd H1 p (.tup xs))) : tTup t σ H Q := q
theorem i_lst {t : TA} (q : t σ H fun xs H1 => xs.length ≤ sizeLine ∧ ∀ p, H1 p = none → Q (.ref p) (upd H1 p (.lst xs))) : tLst t σ H Q := q
theorem i_bm {T : String} {r : V → List V → Hp → VK → Prop} {to : TE} {t : TA} (q : to σ H fun x H1 => tyV K T x H1 ∧ t σ H1 fun xs H2 => r x xs H2 Q) : tBM K T r to t σ H Q := q
theorem i_sl {r : V → Option Int → Option Int → Hp → VK → Prop} {te : TE} {tl th : TO} (q : te σ H fun x H1 => tl σ H1 fun l H2 => th σ H2 fun u H3 => r x l u H3 Q) : tSl r te tl th σ H Q := q
theorem i_nopart {R : Option Int → Hp → Prop} (q : R none H) : tNoPart σ H R := q
theorem i_part {t : TE} {R : Option Int → Hp → Prop} (q : t σ H fun x H1 => ∃ i, x = .int i ∧ R (some i) H1) : tPart t σ H R := q
theorem i_ixL {p : Addr} {xs : List V} {i : Int} {v : V} (h : SqL K H p xs) (e : atI xs i = some v) (q : Q v H) : rIxL K (.ref p) (.int i) H Q := ⟨p, xs, i, v, rfl, rfl, h, e, q⟩
theorem i_ixT {p : Addr} {xs : List V} {i : Int} {v : V} (h : H p = some (.tup xs)) (e : atI xs i = some v) (q : Q v H) : rIxT K (.ref p) (.int i) H Q := ⟨p, xs, i, v, rfl, rfl, SqT.of h, e, q⟩
theorem i_ixS {z : Str} {i : Int} {c : Nat} (hz : z.length ≤ sizeLine) (e : atI z.cps.toList i = some c) (q : Q (.str ⟨#[c]⟩) H) : rIxS (.str z) (.int i) H Q := ⟨z, i, c, rfl, rfl, hz, e, q⟩
variable {D : Ends}
theorem s_seq {t u : TS} (q : t { D with nx := u D } σ H) : tSeq t u D σ H := q
theorem s_asg {te : TE} {g : TG} (q : te σ H fun x H1 => g x σ H1 D.nx) : tAsg te g D σ H := q
theorem s_name {i : Nat} {v : V} {R : St → Hp → Prop} (q : R (σ.set i (some v)) H) : gName i v σ H R := q
theorem s_drop {te : TE} (q : te σ H fun _ H1 => D.nx σ H1) : tDrop te D σ H := q
theorem s_ret {te : TE} (q : te σ H D.rt) : tRet te D σ H := q
theorem s_next (q : D.nx σ H) : tNext D σ H := q
theorem s_if {c : TT} {t u : TS} (q : c σ H fun b H1 => if b = true then t D σ H1 else u D σ H1) : tIfS c t u D σ H := q
theorem s_sub {to ti : TE} {t : TSet} {v : V} {R : St → Hp → Prop} (q : to σ H fun o H1 => ti σ H1 fun i H2 => t o i v H2 fun H3 => R σ H3) : gSub to ti t v σ H R := q
theorem s_setL {p : Addr} {xs : List V} {k : Int} {j : Nat} {v : V} {R : Hp → Prop} (h : H p = some (.lst xs)) (e : ixN xs.length k = some j) (q : R (upd H p (.lst (xs.set j v)))) : rSetL (.ref p) (.int k) v H R := ⟨p, xs, k, j, rfl, rfl, h, e, q⟩
theorem s_for {wi : TI} {g : TG} {tb : TS} (q : wi σ H fun J H1 => ∃ W : Nat → Nat → St → Hp → Prop, (∃ m, W 0 m σ H1) ∧ ∀ i m σ H, W i m σ H →
  (J.stop i H ∧ D.nx σ H) ∨ (J.go i H ∧ ∃ N : St → Hp → Prop, (∀ σ' H', N σ' H' → ∃ m', m' < m ∧ W (i + 1) m' σ' H') ∧ ∀ x H', J.yld i H x H' → g x σ H' fun σ2 H2 => tb { D with nx := N, ct := N, bk := D.nx } σ2 H2)) : tFor wi g tb D σ H := q
theorem s_rng1 {ta : TA} {R : It → Hp → Prop} (q : ta σ H fun vs H1 => ∃ j : Int, vs = [.int j] ∧ -(2 ^ 62) ≤ j ∧ j < 2 ^ 62 ∧ R (Itr 0 j.toNat) H1) : iRng1 ta σ H R := q
theorem s_list {tl : TE} {R : It → Hp → Prop} (q : tl σ H fun x H1 => ∃ a, x = .ref a ∧ (∃ xs, SqL K H1 a xs) ∧ R (Itl K a) H1) : iList K tl σ H R := q
theorem s_str {tl : TE} {R : It → Hp → Prop} (q : tl σ H fun v H1 => ∃ z : Str, v = .str z ∧ R (Itf z.cps.size (signV z)) H1) : iStr tl σ H R := q
theorem s_strI {z : Str} {R : It → Hp → Prop} (q : R (Itf z.cps.size (signV z)) H) : ∃ y : Str, V.str z = .str y ∧ R (Itf y.cps.size (signV y)) H := ⟨z, rfl, q⟩
theorem i_comp {wi : TI} {g : TG} {tt : TT} {te : TE} {f : St → St} (q : wi σ H fun J H1 => ∀ D, H1 D = none → ∃ W : Nat → Nat → Hp → List V → Prop, (∃ m, W 0 m (upd H1 D (.lst [])) []) ∧
  ∀ i m H ys, W i m H ys → H D = some (.lst ys) ∧ ((J.stop i H ∧ Q (.ref D) H) ∨ (J.go i H ∧ ∀ x H', J.yld i H x H' → g x (f σ) H' fun σ2 H2 => wk (f σ) σ2 ∧ tt σ2 H2 fun b H3 =>
    if b = true then te σ2 H3 fun v H4 => H4 D = some (.lst ys) ∧ ys.length < sizeLine ∧ ∃ m', m' < m ∧ W (i + 1) m' (upd H4 D (.lst (ys ++ [v]))) (ys ++ [v])
    else ∃ m', m' < m ∧ W (i + 1) m' H3 ys))) : tComp wi g tt te f σ H Q := q
end
noncomputable def NextC (Pv : Nat → Hp → List V → Prop) (n : Nat) (D : Addr) (i : Nat) (ys : List V) : VK := fun v H4 => H4 D = some (.lst ys) ∧ ys.length < sizeLine ∧ ∃ m', m' < n - i ∧ (m' = n - (i + 1) ∧ i + 1 ≤ n ∧ Pv (i + 1) (upd H4 D (.lst (ys ++ [v]))) (ys ++ [v]))
theorem NextC.mk {Pv : Nat → Hp → List V → Prop} {n : Nat} {D : Addr} {i : Nat} {ys : List V} {v : V} {H4 : Hp} (hd : H4 D = some (.lst ys)) (hi : i < n) (hl : ys.length < sizeLine) (p : Pv (i + 1) (upd H4 D (.lst (ys ++ [v]))) (ys ++ [v])) : NextC Pv n D i ys v H4 :=
  ⟨hd, hl, n - (i + 1), by omega, rfl, hi, p⟩
section
variable {K : PySem.W.Frag} {g : TG} {te : TE} {σ0 : St} {QD : Hp → Prop} {H1 : Hp} {D : Addr}
theorem comp_range {lo : Int} {n : Nat} (Pv : Nat → Hp → List V → Prop) (h0 : Pv 0 (upd H1 D (.lst [])) []) (hD : ∀ i H ys, Pv i H ys → H D = some (.lst ys))
    (hs : ∀ i H ys, i < n → Pv i H ys → g (.int (lo + i)) σ0 H fun σ2 H2 => wk σ0 σ2 ∧ tYes σ2 H2 fun b H3 => if b = true then te σ2 H3 (NextC Pv n D i ys) else ∃ m', m' < n - i ∧ (m' = n - (i + 1) ∧ i + 1 ≤ n ∧ Pv (i + 1) H3 ys)) (hd : ∀ H ys, Pv n H ys → QD H) :
    ∃ W : Nat → Nat → Hp → List V → Prop, (∃ m, W 0 m (upd H1 D (.lst [])) []) ∧ ∀ i m H ys, W i m H ys → H D = some (.lst ys) ∧ (((Itr lo n).stop i H ∧ QD H) ∨ ((Itr lo n).go i H ∧ ∀ x H', (Itr lo n).yld i H x H' → g x σ0 H' fun σ2 H2 => wk σ0 σ2 ∧ tYes σ2 H2 fun b H3 =>
      if b = true then te σ2 H3 fun v H4 => H4 D = some (.lst ys) ∧ ys.length < sizeLine ∧ ∃ m', m' < m ∧ W (i + 1) m' (upd H4 D (.lst (ys ++ [v]))) (ys ++ [v]) else ∃ m', m' < m ∧ W (i + 1) m' H3 ys)) := by
  refine ⟨fun i m H ys => m = n - i ∧ i ≤ n ∧ Pv i H ys, ⟨n, by simp, Nat.zero_le _, h0⟩, ?_⟩
  rintro i m H ys ⟨rfl, hi, p⟩
  refine ⟨hD i H ys p, ?_⟩
  by_cases hlt : i < n
  · refine .inr ⟨hlt, fun x H' y => ?_⟩
    obtain ⟨e, y⟩ := y
    subst e y
    exact hs i _ ys hlt p
  · have e : i = n := by omega
    subst e
    exact .inl ⟨Nat.le_refl _, hd H ys p⟩
theorem comp_list {a : Addr} {xs : List V} (Pv : Nat → Hp → List V → Prop) (h0 : Pv 0 (upd H1 D (.lst [])) []) (hD : ∀ i H ys, Pv i H ys → H D = some (.lst ys) ∧ SqL K H a xs)
    (hs : ∀ i x H ys, xs[i]? = some x → Pv i H ys → g x σ0 H fun σ2 H2 => wk σ0 σ2 ∧ tYes σ2 H2 fun b H3 => if b = true then te σ2 H3 (NextC Pv xs.length D i ys) else ∃ m', m' < xs.length - i ∧ (m' = xs.length - (i + 1) ∧ i + 1 ≤ xs.length ∧ Pv (i + 1) H3 ys)) (hd : ∀ H ys, Pv xs.length H ys → QD H) :
    ∃ W : Nat → Nat → Hp → List V → Prop, (∃ m, W 0 m (upd H1 D (.lst [])) []) ∧ ∀ i m H ys, W i m H ys → H D = some (.lst ys) ∧ (((Itl K a).stop i H ∧ QD H) ∨ ((Itl K a).go i H ∧ ∀ x H', (Itl K a).yld i H x H' → g x σ0 H' fun σ2 H2 => wk σ0 σ2 ∧ tYes σ2 H2 fun b H3 =>
      if b = true then te σ2 H3 fun v H4 => H4 D = some (.lst ys) ∧ ys.length < sizeLine ∧ ∃ m', m' < m ∧ W (i + 1) m' (upd H4 D (.lst (ys ++ [v]))) (ys ++ [v]) else ∃ m', m' < m ∧ W (i + 1) m' H3 ys)) := by
  refine ⟨fun i m H ys => m = xs.length - i ∧ i ≤ xs.length ∧ Pv i H ys, ⟨xs.length, by simp, Nat.zero_le _, h0⟩, ?_⟩
  rintro i m H ys ⟨rfl, hi, p⟩
  obtain ⟨d1, d2⟩ := hD i H ys p
  refine ⟨d1, ?_⟩
  by_cases hlt : i < xs.length
  · refine .inr ⟨⟨xs, xs[i], d2, by simp [hlt]⟩, fun x H' y => ?_⟩
    obtain ⟨e, y⟩ := y
    subst e
    exact hs i x _ ys (y xs d2) p
  · have e : i = xs.length := by omega
    subst e
    exact .inl ⟨⟨xs, d2, Nat.le_refl _⟩, hd H ys p⟩
theorem comp_itf {n : Nat} {f : Nat → V} (Pv : Nat → Hp → List V → Prop) (h0 : Pv 0 (upd H1 D (.lst [])) []) (hD : ∀ i H ys, Pv i H ys → H D = some (.lst ys))
    (hs : ∀ i H ys, i < n → Pv i H ys → g (f i) σ0 H fun σ2 H2 => wk σ0 σ2 ∧ tYes σ2 H2 fun b H3 => if b = true then te σ2 H3 (NextC Pv n D i ys) else ∃ m', m' < n - i ∧ (m' = n - (i + 1) ∧ i + 1 ≤ n ∧ Pv (i + 1) H3 ys)) (hd : ∀ H ys, Pv n H ys → QD H) :
    ∃ W : Nat → Nat → Hp → List V → Prop, (∃ m, W 0 m (upd H1 D (.lst [])) []) ∧ ∀ i m H ys, W i m H ys → H D = some (.lst ys) ∧ (((Itf n f).stop i H ∧ QD H) ∨ ((Itf n f).go i H ∧ ∀ x H', (Itf n f).yld i H x H' → g x σ0 H' fun σ2 H2 => wk σ0 σ2 ∧ tYes σ2 H2 fun b H3 =>
      if b = true then te σ2 H3 fun v H4 => H4 D = some (.lst ys) ∧ ys.length < sizeLine ∧ ∃ m', m' < m ∧ W (i + 1) m' (upd H4 D (.lst (ys ++ [v]))) (ys ++ [v]) else ∃ m', m' < m ∧ W (i + 1) m' H3 ys)) := by
  refine ⟨fun i m H ys => m = n - i ∧ i ≤ n ∧ Pv i H ys, ⟨n, by simp, Nat.zero_le _, h0⟩, ?_⟩
  rintro i m H ys ⟨rfl, hi, p⟩
  refine ⟨hD i H ys p, ?_⟩
  by_cases hlt : i < n
  · refine .inr ⟨hlt, fun x H' y => ?_⟩
    obtain ⟨e, y⟩ := y
    subst e y
    exact hs i _ ys hlt p
  · have e : i = n := by omega
    subst e
    exact .inl ⟨rfl, hd H ys p⟩
end
end L2
namespace L2
open PySem PySem.Spec PyProof.Rows
section
variable {H : Hp} {Q : VK} {K : PySem.W.Frag}
theorem i_slS {z : Str} {lo hi : Option Int} (h : z.length ≤ sizeLine) (q : Q (.str (Txt.slice z lo hi)) H) : rSlS (.str z) lo hi H Q := ⟨z, rfl, h, q⟩
theorem i_slL {a : Addr} {xs : List V} {lo hi : Option Int} (h : SqL K H a xs) (q : ∀ p, H p = none → Q (.ref p) (upd H p (.lst (cutV xs lo hi)))) : rSlL K (.ref a) lo hi H Q := ⟨a, xs, rfl, h, q⟩
theorem i_in {x : V} {p : Addr} {xs : List V} (h : SqL K H p xs) (fx : flatV x = true) (fs : xs.all flatV = true) (q : Q (.bl (inV x xs)) H) : rIn K false x (.ref p) H Q := ⟨p, xs, rfl, .inl h, fx, fs, q⟩
theorem i_cat {l b : Addr} {xs zs : List V} (h1 : H l = some (.lst xs)) (h2 : H b = some (.lst zs)) (hz : xs.length + zs.length ≤ sizeLine) (q : ∀ p, H p = none → Q (.ref p) (upd H p (.lst (xs ++ zs)))) : rCat (.ref l) (.ref b) H Q := ⟨l, b, xs, zs, rfl, rfl, h1, h2, hz, q⟩
theorem i_app {l : Addr} {xs : List V} {y : V} (h : H l = some (.lst xs)) (hz : xs.length < sizeLine) (q : Q .non (upd H l (.lst (xs ++ [y])))) : rAppend (.ref l) [y] H Q := ⟨l, xs, y, rfl, rfl, h, hz, q⟩
theorem i_tyL {p : Addr} {xs : List V} (h : H p = some (.lst xs)) : tyV K "list" (.ref p) H := .inl ⟨rfl, xs, SqL.of h⟩
theorem i_tyS {z : Str} : tyV K "str" (.str z) H := rfl
end
theorem fresh_same {H : Hp} {p : Addr} {o : HO} (hp : H p = none) : Same H (upd H p o) := fun b u e => by rw [upd_ne (ne_of_none e hp)]; exact e
end L2
set_option Elab.async false
set_option linter.all false
namespace L2
open PySem
section
variable {σ : St} {H : Hp} {D : Ends}
theorem s_seqT {t u : TS} (q : let D' : Ends := { D with nx := u D }; t D' σ H) : tSeq t u D σ H := q
theorem s_nameT {i : Nat} {v : V} {R : St → Hp → Prop} (q : let σ' : St := σ.set i (some v); R σ' H) : gName i v σ H R := q
end
theorem i_yes {σ : St} {H : Hp} {R : Bool → Hp → Prop} (q : R true H) : tYes σ H R := q
theorem i_dget {td ty : TE} {σ : St} {H : Hp} {Q : VK} (q : td σ H fun x H1 => ty σ H1 fun y H2 => ∃ a v, x = .ref a ∧ DGet H2 a y (some v) ∧ Q v H2) : tDGet td ty σ H Q := q
theorem i_un {r : V → Hp → VK → Prop} {ta : TE} {σ : St} {H : Hp} {Q : VK} (q : ta σ H fun x H1 => r x H1 Q) : tUn r ta σ H Q := q
theorem i_rU {g : Int → V} {i : Int} {H : Hp} {Q : VK} (q : Q (g i) H) : rU g (.int i) H Q := ⟨i, rfl, q⟩
end L2
set_option Elab.async false
set_option linter.all false
set_option maxRecDepth 100000
set_option maxHeartbeats 4000000
namespace LZ
open PySem
section
variable {prog : Program} {w : World} {A : Around} {E : Value → Shared → Prop} {s : Shared}
abbrev IsZ (h : Heap) (z TI TO : Addr) (f0 : Value) (f1 : Bool) : Prop :=
  h.get? z = some { cls := .type "zip", dict := none, data := .fields #[f0, .bool f1, .bool false, .ref TI, .ref TO], slots := #[] }
structure Apart5 (z TI TO i1 i2 l : Addr) : Prop where
  TIz : TI ≠ z
  TOz : TO ≠ z
  i1z : i1 ≠ z
  i2z : i2 ≠ z
  TITO : TI ≠ TO
  TIi1 : TI ≠ i1
  TIi2 : TI ≠ i2
  TOi1 : TO ≠ i1
  TOi2 : TO ≠ i2
  i12 : i1 ≠ i2
  lz : l ≠ z
  lTO : l ≠ TO
  li1 : l ≠ i1
  li2 : l ≠ i2
theorem sign_next {ty : String} (hty : ty = "str_ascii_iterator" ∨ ty = "str_iterator") {it : Addr} {x : Str} {t : Tok} {i c : Nat} {Q : Value → Shared → Prop} (hit : s.heap.IsStrIter it ty x t i) (hx : x.cps[i]? = some c)
    (hQ : ∀ h', h'.IsStrIter it ty x t (i + 1) → Heap.SameBut it s.heap h' → Q (.str ⟨#[c]⟩ s.toks) { s with heap := h', toks := s.toks + 1 }) :
    wpAny (model prog w) A (Builtin.SmallTypes.nextOf (.ref it)) Q E s := by
  rcases hty with e | e
  · subst e; exact wpAny_nextOf_ascii_item hit hx hQ
  · subst e; exact wpAny_nextOf_wide_item hit hx hQ
theorem next_first {ty : String} (hty : ty = "str_ascii_iterator" ∨ ty = "str_iterator") {z TI TO i1 i2 l : Addr} {k c : Nat} {xs : Array Value} {x : Str} {t : Tok} {v a b : Value} {Q : Option Value → Shared → Prop} (D : Apart5 z TI TO i1 i2 l)
    (hz : IsZ s.heap z TI TO .none false) (hTI : IsPair s.heap TI (.ref i1) (.ref i2)) (hTO : IsPair s.heap TO a b) (h1 : s.heap.IsListIter i1 l k) (h2 : s.heap.IsStrIter i2 ty x t k) (hl : s.heap.IsList l xs) (hv : xs[k]? = some v) (hc : x.cps[k]? = some c)
    (hQ : ∀ h', IsZ h' z TI TO (rawInt s.heap.objs.size) false → (∃ a b, IsPair h' TO a b) → h'.IsListIter i1 l (k + 1) → h'.IsStrIter i2 ty x t (k + 1) → IsPair h' s.heap.objs.size v (.str ⟨#[c]⟩ s.toks) → h'.objs.size = s.heap.objs.size + 1 →
      (∀ c o, c ≠ z → c ≠ TO → c ≠ i1 → c ≠ i2 → s.heap.get? c = some o → h'.get? c = some o) → Q (some (.ref s.heap.objs.size)) { s with heap := h', toks := s.toks + 1 }) :
    wpAny (model prog w) A (pyNext (.ref z)) Q E s := by
  have hT : s.TypeIs (.ref z) "zip" := ⟨_, hz, rfl⟩
  unfold pyNext
  refine wpAny_bind (wpAny_attempt (wpAny_callSpecial?_slot (name := Str.ofString "__next__") hT F.slot_zip_next
    (wpAny_call_entry F.slot_zip_next hT F.entry_zip_next ?_ (F.args_zip_next_1 _))))
  show wpAny _ _ (field (.ref z) 2 >>= _) _ _ _
  refine wpAny_bind (wpAny_field hz rfl (x := .bool false) rfl ?_)
  show wpAny _ _ (field (.ref z) 3 >>= _) _ _ _
  refine wpAny_bind (wpAny_field hz rfl (x := .ref TI) rfl ?_)
  refine wpAny_bind (wpAny_seqItems hTI rfl ?_)
  show wpAny _ _ (Builtin.SmallTypes.ownedTupleIsFree (.ref z) >>= _) _ _ _
  refine wpAny_bind ?_
  unfold Builtin.SmallTypes.ownedTupleIsFree
  refine wpAny_bind (wpAny_field hz rfl (x := .none) rfl (wpAny_pure ?_))
  simp only [if_true]
  refine wpAny_bind (wpAny_rule ?_)
  refine wpAny_bind (wpAny_field hz rfl (x := .ref TO) rfl ?_)
  refine wpAny_bind (wpAny_setField_rec hz (by simp) fun h₁ hz₁ hs₁ => ?_)
  replace hz₁ : IsZ h₁ z TI TO .ellipsis false := hz₁
  refine wpAny_bind ?_
  simp only [List.zipIdx_cons, List.zipIdx_nil, List.forIn_cons, List.forIn_nil]
  refine wpAny_bind (wpAny_bind (wpAny_onRaise ?_))
  show wpAny _ _ (Builtin.SmallTypes.nextOf (.ref i1) >>= _) _ _ _
  refine wpAny_bind (wpAny_nextOf_list_item (h1.extBut hs₁.extBut D.i1z) (hl.extBut hs₁.extBut D.lz) hv fun h₂ h1₂ hs₂ => wpAny_pure ?_)
  have hTO₂ : IsPair h₂ TO a b := hs₂.extBut _ _ D.TOi1 (hs₁.extBut _ _ D.TOz hTO)
  refine wpAny_bind (wpAny_seqItems hTO₂ rfl ?_)
  refine wpAny_bind (wpAny_updateSeq_pair hTO₂ fun h₃ hTO₃ hs₃ => ?_)
  replace hTO₃ : IsPair h₃ TO v b := hTO₃
  refine wpAny_bind (wpAny_letGo (wpAny_pure ?_))
  refine wpAny_bind (wpAny_bind (wpAny_onRaise ?_))
  show wpAny _ _ (Builtin.SmallTypes.nextOf (.ref i2) >>= _) _ _ _
  have h2₃ : h₃.IsStrIter i2 ty x t k := ((h2.extBut hs₁.extBut D.i2z).extBut hs₂.extBut D.i12.symm).extBut hs₃.extBut D.TOi2.symm
  refine wpAny_bind (sign_next hty h2₃ hc fun h₄ h2₄ hs₄ => wpAny_pure ?_)
  have hTO₄ : IsPair h₄ TO v b := hs₄.extBut _ _ D.TOi2 hTO₃
  refine wpAny_bind (wpAny_seqItems hTO₄ rfl ?_)
  refine wpAny_bind (wpAny_updateSeq_pair hTO₄ fun h₅ hTO₅ hs₅ => ?_)
  replace hTO₅ : IsPair h₅ TO v (.str ⟨#[c]⟩ s.toks) := hTO₅
  refine wpAny_bind (wpAny_letGo (wpAny_pure (wpAny_pure ?_)))
  refine wpAny_bind (wpAny_seqItems hTO₅ rfl ?_)
  refine wpAny_bind (wpAny_newTuple ?_)
  have hsz : h₅.objs.size = s.heap.objs.size := by rw [hs₅.1, hs₄.1, hs₃.1, hs₂.1, hs₁.1]
  have hz₅ : IsZ h₅ z TI TO .ellipsis false := hs₅.extBut _ _ D.TOz.symm (hs₄.extBut _ _ D.i2z.symm (hs₃.extBut _ _ D.TOz.symm (hs₂.extBut _ _ D.i1z.symm hz₁)))
  have hk₅ : ∀ c o, c ≠ z → c ≠ TO → c ≠ i1 → c ≠ i2 → s.heap.get? c = some o → h₅.get? c = some o := fun c o c1 c2 c3 c4 e =>
    hs₅.extBut _ _ c2 (hs₄.extBut _ _ c4 (hs₃.extBut _ _ c2 (hs₂.extBut _ _ c3 (hs₁.extBut _ _ c1 e))))
  have h1₅ : h₅.IsListIter i1 l (k + 1) := ((h1₂.extBut hs₃.extBut D.TOi1.symm).extBut hs₄.extBut D.i12).extBut hs₅.extBut D.TOi1.symm
  have h2₅ : h₅.IsStrIter i2 ty x t (k + 1) := h2₄.extBut hs₅.extBut D.TOi2.symm
  have hzlt : z < h₅.objs.size := Heap.lt_size hz₅
  show wpAny _ _ (Builtin.SmallTypes.ownedTupleHandOut (.ref z) (.ref h₅.objs.size) >>= _) _ _ _
  refine wpAny_bind ?_
  unfold Builtin.SmallTypes.ownedTupleHandOut
  have hz₆ : IsZ (h₅.push { cls := .type "tuple", data := .seq #[v, .str ⟨#[c]⟩ s.toks] }) z TI TO .ellipsis false := Heap.get?_push_of_some _ hz₅
  refine wpAny_bind (wpAny_setField_rec hz₆ (by simp) fun h₇ hz₇ hs₇ => ?_)
  replace hz₇ : IsZ h₇ z TI TO (rawInt h₅.objs.size) false := hz₇
  refine wpAny_setField_rec hz₇ (by simp) fun h₈ hz₈ hs₈ => ?_
  replace hz₈ : IsZ h₈ z TI TO (rawInt h₅.objs.size) false := hz₈
  have up : ∀ c o, c ≠ z → h₅.get? c = some o → h₈.get? c = some o := fun c o c1 e => hs₈.extBut _ _ c1 (hs₇.extBut _ _ c1 (Heap.get?_push_of_some _ e))
  have hT₈ : IsPair h₈ h₅.objs.size v (.str ⟨#[c]⟩ s.toks) := hs₈.extBut _ _ (Nat.ne_of_gt hzlt) (hs₇.extBut _ _ (Nat.ne_of_gt hzlt) (Heap.get?_push_size _ rfl))
  have hz8 : h₈.objs.size = h₅.objs.size + 1 := by rw [hs₈.1, hs₇.1, Heap.size_push]
  rw [hsz] at hz₈ hT₈ hz8
  refine wpAny_pure ⟨_, rfl, wpAny_pure ?_⟩
  show Q (some (.ref h₅.objs.size)) _
  rw [hsz]
  exact hQ h₈ hz₈ ⟨_, _, up _ _ D.TOz hTO₅⟩ (h1₅.at fun o e => up _ o D.i1z e) (let ⟨o, e, r⟩ := h2₅; ⟨o, up _ o D.i2z e, r⟩) hT₈ hz8 fun c o c1 c2 c3 c4 e => up c o c1 (hk₅ c o c1 c2 c3 c4 e)
theorem alive {a : Addr} {o : Obj} {Q : Option Obj → Shared → Prop} (ho : s.heap.get? a = some o) (h : Q (some o) s) : wpAny (model prog w) A (loadIfAlive a) Q E s := by
  have h' : Q (s.heap.get? a) s := by rw [ho]; exact h
  exact fun _ _ _ => h'
theorem next_later {ty : String} (hty : ty = "str_ascii_iterator" ∨ ty = "str_iterator") {z TI TO i1 i2 l T : Addr} {f1 : Bool} {oT : Obj} {k c : Nat} {xs : Array Value} {x : Str} {t : Tok} {v : Value} {Q : Option Value → Shared → Prop} (D : Apart5 z TI TO i1 i2 l)
    (hz : IsZ s.heap z TI TO (rawInt T) f1) (hT : s.heap.get? T = some oT) (hTI : IsPair s.heap TI (.ref i1) (.ref i2)) (h1 : s.heap.IsListIter i1 l k) (h2 : s.heap.IsStrIter i2 ty x t k) (hl : s.heap.IsList l xs) (hv : xs[k]? = some v) (hc : x.cps[k]? = some c)
    (hQ : ∀ h', IsZ h' z TI TO (rawInt T) true → h'.IsListIter i1 l (k + 1) → h'.IsStrIter i2 ty x t (k + 1) → IsPair h' s.heap.objs.size v (.str ⟨#[c]⟩ s.toks) → h'.objs.size = s.heap.objs.size + 1 →
      (∀ c o, c ≠ z → c ≠ i1 → c ≠ i2 → s.heap.get? c = some o → h'.get? c = some o) → Q (some (.ref s.heap.objs.size)) { s with heap := h', toks := s.toks + 1 }) :
    wpAny (model prog w) A (pyNext (.ref z)) Q E s := by
  have hTy : s.TypeIs (.ref z) "zip" := ⟨_, hz, rfl⟩
  unfold pyNext
  refine wpAny_bind (wpAny_attempt (wpAny_callSpecial?_slot (name := Str.ofString "__next__") hTy F.slot_zip_next
    (wpAny_call_entry F.slot_zip_next hTy F.entry_zip_next ?_ (F.args_zip_next_1 _))))
  show wpAny _ _ (field (.ref z) 2 >>= _) _ _ _
  refine wpAny_bind (wpAny_field hz rfl (x := .bool false) rfl ?_)
  show wpAny _ _ (field (.ref z) 3 >>= _) _ _ _
  refine wpAny_bind (wpAny_field hz rfl (x := .ref TI) rfl ?_)
  refine wpAny_bind (wpAny_seqItems hTI rfl ?_)
  show wpAny _ _ (Builtin.SmallTypes.ownedTupleIsFree (.ref z) >>= _) _ _ _
  refine wpAny_bind ?_
  unfold Builtin.SmallTypes.ownedTupleIsFree
  refine wpAny_bind (wpAny_field hz rfl (x := rawInt T) rfl ?_)
  show wpAny _ _ (loadIfAlive ((T : Int).toNat) >>= _) _ _ _
  rw [Int.toNat_natCast]
  refine wpAny_bind (alive hT ?_)
  simp only [Option.isNone_some, Bool.false_eq_true, if_false]
  refine wpAny_bind (wpAny_field hz rfl (x := .bool f1) rfl ?_)
  cases f1 with
  | false =>
    simp only [show (Value.bool false != Value.bool true) = true from rfl, if_true]
    refine wpAny_bind (wpAny_setField_rec hz (by simp) fun h₁ hz₁ hs₁ => wpAny_pure ?_)
    replace hz₁ : IsZ h₁ z TI TO (rawInt T) true := hz₁
    simp only [Bool.false_eq_true, if_false, List.forIn_toArray, List.forIn_cons, List.forIn_nil]
    refine wpAny_bind (wpAny_bind (wpAny_bind (wpAny_holding ?_)))
    show wpAny _ _ (Builtin.SmallTypes.nextOf (.ref i1) >>= _) _ _ _
    refine wpAny_bind (wpAny_nextOf_list_item (h1.extBut hs₁.extBut D.i1z) (hl.extBut hs₁.extBut D.lz) hv fun h₂ h1₂ hs₂ => wpAny_pure ?_)
    refine wpAny_pure ?_
    dsimp only
    refine wpAny_bind (wpAny_bind (wpAny_holding ?_))
    show wpAny _ _ (Builtin.SmallTypes.nextOf (.ref i2) >>= _) _ _ _
    have h2₂ : h₂.IsStrIter i2 ty x t k := (h2.extBut hs₁.extBut D.i2z).extBut hs₂.extBut D.i12.symm
    refine wpAny_bind (sign_next hty h2₂ hc fun h₄ h2₄ hs₄ => wpAny_pure ?_)
    refine wpAny_pure (wpAny_pure ?_)
    dsimp only
    show wpAny _ _ (newTuple [v, .str ⟨#[c]⟩ s.toks] >>= _) _ _ _
    refine wpAny_bind (wpAny_newTuple ?_)
    have hsz : h₄.objs.size = s.heap.objs.size := by rw [hs₄.1, hs₂.1, hs₁.1]
    have hz₄ : IsZ h₄ z TI TO (rawInt T) true := hs₄.extBut _ _ D.i2z.symm (hs₂.extBut _ _ D.i1z.symm hz₁)
    have hk₄ : ∀ c o, c ≠ z → c ≠ i1 → c ≠ i2 → s.heap.get? c = some o → h₄.get? c = some o := fun c o c1 c3 c4 e => hs₄.extBut _ _ c4 (hs₂.extBut _ _ c3 (hs₁.extBut _ _ c1 e))
    refine wpAny_pure ⟨_, rfl, wpAny_pure ?_⟩
    show Q (some (.ref h₄.objs.size)) _
    rw [hsz]
    exact hQ _ (Heap.get?_push_of_some _ hz₄) ((h1₂.extBut hs₄.extBut D.i12).at fun o e => Heap.get?_push_of_some _ e) (let ⟨o, e, r⟩ := h2₄; ⟨o, Heap.get?_push_of_some _ e, r⟩) (by rw [← hsz]; exact Heap.get?_push_size _ rfl) (by rw [Heap.size_push, hsz]) fun c o c1 c3 c4 e => Heap.get?_push_of_some _ (hk₄ c o c1 c3 c4 e)
  | true =>
    simp only [show (Value.bool true != Value.bool true) = false from rfl, Bool.false_eq_true, if_false]
    refine wpAny_pure ?_
    have hz₁ : IsZ s.heap z TI TO (rawInt T) true := hz
    have hs₁ : Heap.SameBut z s.heap s.heap := .refl ..
    simp only [Bool.false_eq_true, if_false, List.forIn_toArray, List.forIn_cons, List.forIn_nil]
    refine wpAny_bind (wpAny_bind (wpAny_bind (wpAny_holding ?_)))
    show wpAny _ _ (Builtin.SmallTypes.nextOf (.ref i1) >>= _) _ _ _
    refine wpAny_bind (wpAny_nextOf_list_item (h1.extBut hs₁.extBut D.i1z) (hl.extBut hs₁.extBut D.lz) hv fun h₂ h1₂ hs₂ => wpAny_pure ?_)
    refine wpAny_pure ?_
    dsimp only
    refine wpAny_bind (wpAny_bind (wpAny_holding ?_))
    show wpAny _ _ (Builtin.SmallTypes.nextOf (.ref i2) >>= _) _ _ _
    have h2₂ : h₂.IsStrIter i2 ty x t k := (h2.extBut hs₁.extBut D.i2z).extBut hs₂.extBut D.i12.symm
    refine wpAny_bind (sign_next hty h2₂ hc fun h₄ h2₄ hs₄ => wpAny_pure ?_)
    refine wpAny_pure (wpAny_pure ?_)
    dsimp only
    show wpAny _ _ (newTuple [v, .str ⟨#[c]⟩ s.toks] >>= _) _ _ _
    refine wpAny_bind (wpAny_newTuple ?_)
    have hsz : h₄.objs.size = s.heap.objs.size := by rw [hs₄.1, hs₂.1, hs₁.1]
    have hz₄ : IsZ h₄ z TI TO (rawInt T) true := hs₄.extBut _ _ D.i2z.symm (hs₂.extBut _ _ D.i1z.symm hz₁)
    have hk₄ : ∀ c o, c ≠ z → c ≠ i1 → c ≠ i2 → s.heap.get? c = some o → h₄.get? c = some o := fun c o c1 c3 c4 e => hs₄.extBut _ _ c4 (hs₂.extBut _ _ c3 (hs₁.extBut _ _ c1 e))
    refine wpAny_pure ⟨_, rfl, wpAny_pure ?_⟩
    show Q (some (.ref h₄.objs.size)) _
    rw [hsz]
    exact hQ _ (Heap.get?_push_of_some _ hz₄) ((h1₂.extBut hs₄.extBut D.i12).at fun o e => Heap.get?_push_of_some _ e) (let ⟨o, e, r⟩ := h2₄; ⟨o, Heap.get?_push_of_some _ e, r⟩) (by rw [← hsz]; exact Heap.get?_push_size _ rfl) (by rw [Heap.size_push, hsz]) fun c o c1 c3 c4 e => Heap.get?_push_of_some _ (hk₄ c o c1 c3 c4 e)
theorem next_end {z TI TO i1 i2 l : Addr} {f0 : Value} {f1 : Bool} {k : Nat} {xs : Array Value} {a b : Value} {Q : Option Value → Shared → Prop} (hh : A.handled = none) (D : Apart5 z TI TO i1 i2 l)
    (hz : IsZ s.heap z TI TO f0 f1) (hf : (f0 = .none ∧ f1 = false ∧ ∃ a b, IsPair s.heap TO a b) ∨ ∃ (T : Addr) (oT : Obj), f0 = rawInt (T : Nat) ∧ s.heap.get? T = some oT) (hTI : IsPair s.heap TI (.ref i1) (.ref i2)) (h1 : s.heap.IsListIter i1 l k) (hl : s.heap.IsList l xs) (hv : xs[k]? = none)
    (hQ : ∀ h', (∀ c o, c ≠ z → c ≠ i1 → s.heap.get? c = some o → h'.get? c = some o) → Q none { s with heap := h' }) : wpAny (model prog w) A (pyNext (.ref z)) Q E s := by
  have hTy : s.TypeIs (.ref z) "zip" := ⟨_, hz, rfl⟩
  unfold pyNext
  refine wpAny_bind (wpAny_attempt (wpAny_callSpecial?_slot (name := Str.ofString "__next__") hTy F.slot_zip_next
    (wpAny_call_entry F.slot_zip_next hTy F.entry_zip_next ?_ (F.args_zip_next_1 _))))
  show wpAny _ _ (field (.ref z) 2 >>= _) _ _ _
  refine wpAny_bind (wpAny_field hz rfl (x := .bool false) rfl ?_)
  show wpAny _ _ (field (.ref z) 3 >>= _) _ _ _
  refine wpAny_bind (wpAny_field hz rfl (x := .ref TI) rfl ?_)
  refine wpAny_bind (wpAny_seqItems hTI rfl ?_)
  show wpAny _ _ (Builtin.SmallTypes.ownedTupleIsFree (.ref z) >>= _) _ _ _
  refine wpAny_bind ?_
  unfold Builtin.SmallTypes.ownedTupleIsFree
  refine wpAny_bind (wpAny_field hz rfl (x := f0) rfl ?_)
  have fin : ∀ h' e, (∀ c o, c ≠ z → c ≠ i1 → s.heap.get? c = some o → h'.get? c = some o) → (∃ o, h'.get? e = some o ∧ o.cls = .type "StopIteration") →
      wpAny (model prog w) A (do if ← isInstance (.ref e) (.type "StopIteration") then pure none else throw (.ref e)) Q E { s with heap := h' } := fun h' e hk ⟨o, ho, hc⟩ =>
    wpAny_bind (wpAny_isInstance (T := "StopIteration") (b := true) ⟨o, ho, hc⟩ isSubtype_stop (wpAny_pure (hQ _ hk)))
  rcases hf with ⟨e1, e2, a, b, hTO⟩ | ⟨T, oT, e1, hT⟩
  · subst e1 e2
    refine wpAny_pure ?_
    simp only [if_true]
    refine wpAny_bind (wpAny_rule ?_)
    refine wpAny_bind (wpAny_field hz rfl (x := .ref TO) rfl ?_)
    refine wpAny_bind (wpAny_setField_rec hz (by simp) fun h₁ hz₁ hs₁ => ?_)
    replace hz₁ : IsZ h₁ z TI TO .ellipsis false := hz₁
    refine wpAny_bind ?_
    simp only [List.zipIdx_cons, List.zipIdx_nil, List.forIn_cons, List.forIn_nil]
    refine wpAny_bind (wpAny_bind (wpAny_onRaise ?_))
    show wpAny _ _ (Builtin.SmallTypes.nextOf (.ref i1) >>= _) _ _ _
    refine wpAny_bind (wpAny_nextOf_list_end hh (h1.extBut hs₁.extBut D.i1z) (hl.extBut hs₁.extBut D.lz) hv fun h₂ e hs₂ he => ?_)
    obtain ⟨oe, hoe, hce⟩ := he
    have hz₂ : IsZ h₂ z TI TO .ellipsis false := hs₂ _ _ D.i1z.symm hz₁
    have hez : e ≠ z := fun x => by subst x; rw [hz₂] at hoe; cases hoe; simp at hce
    refine wpAny_setField_rec hz₂ (by simp) fun h₃ _ hs₃ => ?_
    exact fin h₃ e (fun c o c1 c3 x => hs₃.extBut _ _ c1 (hs₂ _ _ c3 (hs₁.extBut _ _ c1 x))) ⟨oe, hs₃.extBut _ _ hez hoe, hce⟩
  · subst e1
    show wpAny _ _ (loadIfAlive ((T : Int).toNat) >>= _) _ _ _
    rw [Int.toNat_natCast]
    refine wpAny_bind (alive hT ?_)
    simp only [Option.isNone_some, Bool.false_eq_true, if_false]
    refine wpAny_bind (wpAny_field hz rfl (x := .bool f1) rfl ?_)
    cases f1 with
    | false =>
      simp only [show (Value.bool false != Value.bool true) = true from rfl, if_true]
      refine wpAny_bind (wpAny_setField_rec hz (by simp) fun h₁ hz₁ hs₁ => wpAny_pure ?_)
      replace hz₁ : IsZ h₁ z TI TO (rawInt T) true := hz₁
      simp only [Bool.false_eq_true, if_false, List.forIn_toArray, List.forIn_cons, List.forIn_nil]
      refine wpAny_bind (wpAny_bind (wpAny_bind (wpAny_holding ?_)))
      show wpAny _ _ (Builtin.SmallTypes.nextOf (.ref i1) >>= _) _ _ _
      refine wpAny_bind (wpAny_nextOf_list_end hh (h1.extBut hs₁.extBut D.i1z) (hl.extBut hs₁.extBut D.lz) hv fun h₂ e hs₂ he => ?_)
      exact fin h₂ e (fun c o c1 c3 x => hs₂ _ _ c3 (hs₁.extBut _ _ c1 x)) he
    | true =>
      simp only [show (Value.bool true != Value.bool true) = false from rfl, Bool.false_eq_true, if_false]
      refine wpAny_pure ?_
      simp only [Bool.false_eq_true, if_false, List.forIn_toArray, List.forIn_cons, List.forIn_nil]
      refine wpAny_bind (wpAny_bind (wpAny_bind (wpAny_holding ?_)))
      show wpAny _ _ (Builtin.SmallTypes.nextOf (.ref i1) >>= _) _ _ _
      refine wpAny_bind (wpAny_nextOf_list_end hh h1 hl hv fun h₂ e hs₂ he => ?_)
      exact fin h₂ e (fun c o c1 c3 x => hs₂ _ _ c3 x) he

abbrev zH1 (h : Heap) (l : Addr) : Heap := h.push { cls := .type "list_iterator", data := .fields #[.ref l, .int 0 0] }
abbrev zH2 (h : Heap) (l : Addr) (ty : String) (x : Str) (t : Tok) : Heap := (zH1 h l).push { cls := .type ty, data := .fields #[.str x t, .int 0 0] }
abbrev zH3 (h : Heap) (l : Addr) (ty : String) (x : Str) (t : Tok) : Heap := (zH2 h l ty x t).push { cls := .type "tuple", data := .seq #[.ref h.objs.size, .ref (zH1 h l).objs.size] }
abbrev zH4 (h : Heap) (l : Addr) (ty : String) (x : Str) (t : Tok) : Heap := (zH3 h l ty x t).push { cls := .type "tuple", data := .seq #[.none, .none] }
abbrev zH5 (h : Heap) (l : Addr) (ty : String) (x : Str) (t : Tok) : Heap := (zH4 h l ty x t).push { cls := .type "zip", data := .fields #[.none, .bool false, .bool false, .ref (zH2 h l ty x t).objs.size, .ref (zH3 h l ty x t).objs.size] }
noncomputable def tyOf (x : Str) : String := if x.cps.all (· < 128) = true then "str_ascii_iterator" else "str_iterator"
theorem iter_sign {x : Str} {t : Tok} {Q : Value → Shared → Prop} (hQ : Q (.ref s.heap.objs.size) { s with heap := s.heap.push { cls := .type (tyOf x), data := .fields #[.str x t, .int 0 0] } }) : wpAny (model prog w) A (pyIter (.str x t)) Q E s := by
  unfold tyOf at hQ
  cases ha : x.cps.all (· < 128) with
  | true => rw [ha, if_pos rfl] at hQ; exact wpAny_pyIter_ascii ha hQ
  | false => rw [ha, if_neg Bool.false_ne_true] at hQ; exact wpAny_pyIter_wide ha hQ
theorem tyOf_is (x : Str) : tyOf x = "str_ascii_iterator" ∨ tyOf x = "str_iterator" := by
  unfold tyOf
  split
  · exact .inl rfl
  · exact .inr rfl
theorem meets_new (l : Addr) (xs : Array Value) (x : Str) (t : Tok) :
    Meets (Builtin.«zip.__new__» ⟨[.type "zip", .ref l, .str x t], []⟩) (fun _ R s => s.heap.IsList l xs ∧ R (.ok (.ret (.ref (zH4 s.heap l (tyOf x) x t).objs.size))) { s with heap := zH5 s.heap l (tyOf x) x t }) :=
  .of_wp fun prog w A R s h => by
    obtain ⟨hp, g, d, tk, os⟩ := s; obtain ⟨hl1, h⟩ := h
    have hsub := sub_zip
    have hL1 : Heap.IsList (Shared.heap ⟨hp, g, d, tk, os⟩) l xs := hl1
    wp_walk using wpAny_pyIter_list hL1, iter_sign
    exact ⟨_, rfl, h⟩
theorem call_zip {l : Addr} {xs : Array Value} {x : Str} {t : Tok} {Q : Value → Shared → Prop} (hl1 : s.heap.IsList l xs)
    (h : ∀ h', IsZ h' (s.heap.objs.size + 4) (s.heap.objs.size + 2) (s.heap.objs.size + 3) .none false → IsPair h' (s.heap.objs.size + 2) (.ref s.heap.objs.size) (.ref (s.heap.objs.size + 1)) →
      IsPair h' (s.heap.objs.size + 3) .none .none → h'.IsListIter s.heap.objs.size l 0 → h'.IsStrIter (s.heap.objs.size + 1) (tyOf x) x t 0 → h'.objs.size = s.heap.objs.size + 5 →
      (∀ c o, s.heap.get? c = some o → h'.get? c = some o) → Q (.ref (s.heap.objs.size + 4)) { s with heap := h' }) :
    wpAny (model prog w) A (call (.type "zip") [.ref l, .str x t]) Q E s := by
  refine callType_new F.called_zip (by decide) (F.typeCall_zip_2 _ _) (F.newCall_zip_2 _ _) (fun obj => F.args_object_init_3 obj _ _) F.entry_zip_new (meets_new l xs x t) ⟨hl1, ?_⟩
  have z1 : (zH1 s.heap l).objs.size = s.heap.objs.size + 1 := Heap.size_push ..
  have z2 : (zH2 s.heap l (tyOf x) x t).objs.size = s.heap.objs.size + 2 := by rw [Heap.size_push, z1]
  have z3 : (zH3 s.heap l (tyOf x) x t).objs.size = s.heap.objs.size + 3 := by rw [Heap.size_push, z2]
  have z4 : (zH4 s.heap l (tyOf x) x t).objs.size = s.heap.objs.size + 4 := by rw [Heap.size_push, z3]
  have z5 : (zH5 s.heap l (tyOf x) x t).objs.size = s.heap.objs.size + 5 := by rw [Heap.size_push, z4]
  have g5 : (zH5 s.heap l (tyOf x) x t).get? (zH4 s.heap l (tyOf x) x t).objs.size = some _ := Heap.get?_push_size _ rfl
  have g4 : (zH5 s.heap l (tyOf x) x t).get? (zH3 s.heap l (tyOf x) x t).objs.size = some _ := Heap.get?_push_of_some _ (Heap.get?_push_size _ rfl)
  have g3 : (zH5 s.heap l (tyOf x) x t).get? (zH2 s.heap l (tyOf x) x t).objs.size = some _ := Heap.get?_push_of_some _ (Heap.get?_push_of_some _ (Heap.get?_push_size _ rfl))
  have g2 : (zH5 s.heap l (tyOf x) x t).get? (zH1 s.heap l).objs.size = some _ := Heap.get?_push_of_some _ (Heap.get?_push_of_some _ (Heap.get?_push_of_some _ (Heap.get?_push_size _ rfl)))
  have g1 : (zH5 s.heap l (tyOf x) x t).get? s.heap.objs.size = some _ := Heap.get?_push_of_some _ (Heap.get?_push_of_some _ (Heap.get?_push_of_some _ (Heap.get?_push_of_some _ (Heap.get?_push_size _ rfl))))
  show _ ∧ _
  rw [z2, z3, z4] at g5
  rw [z1, z2] at g3
  rw [z3] at g4
  rw [z1] at g2
  rw [z4]
  exact ⟨⟨_, g5, rfl⟩, h _ g5 g3 g4 ⟨_, g1, rfl, rfl⟩ ⟨_, g2, rfl, rfl⟩ z5 fun c o x =>
    Heap.get?_push_of_some _ (Heap.get?_push_of_some _ (Heap.get?_push_of_some _ (Heap.get?_push_of_some _ (Heap.get?_push_of_some _ x))))⟩

theorem zip_getattr_none : typeLookup (.type "zip") "__getattr__" = pure none := by rw [typeLookup_type, builtinLookup_eq_fast]; kernel_rfl
theorem zip_keys_none : typeLookup (.type "zip") "keys" = pure none := by rw [typeLookup_type, builtinLookup_eq_fast]; kernel_rfl
theorem entry_zip_getattribute : entryFor table "zip.__getattribute__" = some Builtin.«object.__getattribute__» :=
  entryFor_alias (id' := "object.__getattribute__") (by kernel_rfl) (by decide +kernel) (by decide +kernel) (by kernel_rfl)
theorem meets_miss_zip (a : Addr) (xs : Array Value) (sl : Array (Option Value)) (u : Tok) :
    Meets (Builtin.«object.__getattribute__» ⟨[.ref a, .str "keys" u], []⟩) (fun A R s => s.heap.get? a = some { cls := .type "zip", dict := none, data := .fields xs, slots := sl } ∧ raisesAttr (.ref a) "keys" A R s) :=
  Meets.of_wp fun prog w A R s hs => by
    obtain ⟨hp, g, d, tk, os⟩ := s
    obtain ⟨hx, hs⟩ := hs
    have hT : (⟨hp, g, d, tk, os⟩ : Shared).TypeIs (.ref a) "zip" := ⟨_, hx, rfl⟩
    have hmiss := zip_keys_none
    have hname : (["__module__", "__name__", "__qualname__", "__doc__", "__annotations__"] : List Str).contains "keys" = false := by decide +kernel
    unfold Builtin.«object.__getattribute__»
    repeat (any_goals (first | assumption | wp_step))
    try simp only [hname, Bool.false_eq_true, if_false]
    repeat (any_goals (first | assumption | wp_step))
    exact wpAny_raiseAttrError hs.1 hs.2 (attrMsg_fits (by decide +kernel) (by decide +kernel))
theorem keys_miss {a : Addr} {xs : Array Value} {sl : Array (Option Value)} {Q : Option Value → Shared → Prop} (hx : s.heap.get? a = some { cls := .type "zip", dict := none, data := .fields xs, slots := sl }) (hA : A.handled = none)
    (h : ∀ h' tk, (∀ c o, s.heap.get? c = some o → h'.get? c = some o) → Q none { s with heap := h', toks := tk }) : wpAny (model prog w) A (getAttr? (.ref a) "keys") Q E s := by
  obtain ⟨hp, g, d, tk, os⟩ := s
  have hT : ∀ tk', (⟨hp, g, d, tk', os⟩ : Shared).TypeIs (.ref a) "zip" := fun _ => ⟨_, hx, rfl⟩
  have f1 := sub_AttributeError
  have f3 := F.slot_zip_getattribute.lookup
  have f4 := F.slot_zip_getattribute.bind (.ref a)
  have f5 := zip_getattr_none
  unfold getAttr? getAttrBy? getAttrBy
  repeat (any_goals (first | assumption | exact hT _ | ((with_reducible show wpAny _ _ (call (Value.builtin "zip.__getattribute__") _ _) _ _ _); refine call_meets F.slot_zip_getattribute (hT _) entry_zip_getattribute (F.args_zip_getattribute_2 _ _) (meets_miss_zip a xs sl _) ⟨hx, hA, fun h' tk' e hx' => ?_⟩) | wp_step))
  obtain ⟨t', u', he⟩ := hx'.there
  show wpAny _ _ (getattributeRaised _ _ _ _ _ _ _) _ _ _
  unfold getattributeRaised
  repeat (any_goals (first | assumption | wp_step))
  all_goals exact h _ _ hx'.keeps
end
end LZ
set_option Elab.async false
set_option linter.all false
set_option maxRecDepth 100000
set_option maxHeartbeats 4000000
namespace LZ
open PySem
theorem mro_dict : mroOf (.type "dict") = pure [.type "dict", .type "object"] := by rw [mroOf_type]; kernel_rfl
theorem lookup_dict_new : typeLookup (.type "dict") "__new__" = pure (some (.builtin "dict.__new__")) := by rw [typeLookup_type, builtinLookup_eq_fast]; kernel_rfl
theorem called_dict : TypeCalled "dict" "dict.__new__" "dict.__init__" :=
  ⟨by decide +kernel, by decide +kernel, ⟨_, _, mro_dict⟩, madeBy_type mro_dict lookup_dict_new (by decide +kernel), by decide +kernel, by rw [isSubtype_type]; kernel_rfl, F.slot_dict_init⟩
theorem typeCall_dict_1 (a : Value) : checkTypeCall "dict" ⟨[a], []⟩ = pure () := by kernel_rfl
theorem newCall_dict_1 (a : Value) : checkBuiltinCall "dict.__new__" ⟨[.type "dict", a], []⟩ = pure () := by kernel_rfl
theorem entry_dict_new : entryFor table "dict.__new__" = some Builtin.«dict.__new__» := entryFor_of_tree (by kernel_rfl)
theorem plain_dict_new : plainId "dict.__new__" = true := by decide +kernel
theorem sub_dict : isSubtype (.type "dict") (.type "dict") = pure true := by rw [isSubtype_type]; kernel_rfl
theorem entry_upd : entryFor table "dict.update.loop" = some Builtin.«dict.update.loop» := entryFor_of_tree (by kernel_rfl)
theorem plain_upd : plainId "dict.update.loop" = true := by decide +kernel
structure ApartD (z TI TO i1 i2 l d : Addr) : Prop extends Apart5 z TI TO i1 i2 l where
  dz : d ≠ z
  dTI : d ≠ TI
  dTO : d ≠ TO
  di1 : d ≠ i1
  di2 : d ≠ i2
  dl : d ≠ l
structure ZS (h : Heap) (z TI TO i1 i2 l d : Addr) (ty : String) (x : Str) (t : Tok) (xs : Array Value) (k : Nat) : Prop where
  zf : (IsZ h z TI TO .none false ∧ ∃ a b, IsPair h TO a b) ∨ ∃ (T : Addr) (f1 : Bool) (oT : Obj), IsZ h z TI TO (rawInt (T : Nat)) f1 ∧ h.get? T = some oT ∧ T ≠ z ∧ T ≠ i1 ∧ T ≠ i2 ∧ T ≠ d
  ti : IsPair h TI (.ref i1) (.ref i2)
  a1 : h.IsListIter i1 l k
  a2 : h.IsStrIter i2 ty x t k
  li : h.IsList l xs
section
variable {prog : Program} {w : World} {K : Type} [DecidableEq K] {knd : KeyKind prog w K} {A : Around} {R : Result → Shared → Prop}
theorem zs_next {E : Value → Shared → Prop} {s : Shared} {ty : String} (hty : ty = "str_ascii_iterator" ∨ ty = "str_iterator") {z TI TO i1 i2 l d : Addr} {x : Str} {t : Tok} {xs : Array Value} {k c : Nat} {v : Value} {od : Obj} {Q : Option Value → Shared → Prop} (D : ApartD z TI TO i1 i2 l d)
    (Z : ZS s.heap z TI TO i1 i2 l d ty x t xs k) (hod : s.heap.get? d = some od) (hv : xs[k]? = some v) (hc : x.cps[k]? = some c)
    (hQ : ∀ h' T u, ZS h' z TI TO i1 i2 l d ty x t xs (k + 1) → IsPair h' T v (.str ⟨#[c]⟩ u) → T ≠ d → (∀ c o, c ≠ z → c ≠ TO → c ≠ i1 → c ≠ i2 → s.heap.get? c = some o → h'.get? c = some o) → Q (some (.ref T)) { s with heap := h', toks := s.toks + 1 }) :
    wpAny (model prog w) A (pyNext (.ref z)) Q E s := by
  have lt : ∀ {c o}, s.heap.get? c = some o → s.heap.objs.size ≠ c := fun e => Nat.ne_of_gt (Heap.lt_size e)
  have l1 : s.heap.objs.size ≠ i1 := by obtain ⟨_, e, _⟩ := Z.a1; exact lt e
  have l2 : s.heap.objs.size ≠ i2 := by obtain ⟨_, e, _⟩ := Z.a2; exact lt e
  rcases Z.zf with ⟨hz, a, b, hTO⟩ | ⟨T, f1, oT, hz, hT, n1, n2, n3, n4⟩
  · refine next_first hty D.toApart5 hz Z.ti hTO Z.a1 Z.a2 Z.li hv hc fun h' b1 b2 b3 b4 b5 b6 b7 => ?_
    exact hQ h' _ _ ⟨.inr ⟨_, _, _, b1, b5, lt hz, l1, l2, lt hod⟩, b7 _ _ D.TIz D.TITO D.TIi1 D.TIi2 Z.ti, b3, b4, Z.li.at fun o e => b7 _ o D.lz D.lTO D.li1 D.li2 e⟩ b5 (lt hod) b7
  · refine next_later hty D.toApart5 hz hT Z.ti Z.a1 Z.a2 Z.li hv hc fun h' b1 b3 b4 b5 b6 b7 => ?_
    exact hQ h' _ _ ⟨.inr ⟨T, _, oT, b1, b7 _ _ n1 n2 n3 hT, n1, n2, n3, n4⟩, b7 _ _ D.TIz D.TIi1 D.TIi2 Z.ti, b3, b4, Z.li.at fun o e => b7 _ o D.lz D.li1 D.li2 e⟩ b5 (lt hod) fun c o c1 _ c3 c4 e => b7 c o c1 c3 c4 e
theorem zs_end {E : Value → Shared → Prop} {s : Shared} {ty : String} {z TI TO i1 i2 l d : Addr} {x : Str} {t : Tok} {xs : Array Value} {k : Nat} {Q : Option Value → Shared → Prop} (hh : A.handled = none) (D : ApartD z TI TO i1 i2 l d)
    (Z : ZS s.heap z TI TO i1 i2 l d ty x t xs k) (hv : xs[k]? = none) (hQ : ∀ h', (∀ c o, c ≠ z → c ≠ i1 → s.heap.get? c = some o → h'.get? c = some o) → Q none { s with heap := h' }) : wpAny (model prog w) A (pyNext (.ref z)) Q E s := by
  rcases Z.zf with ⟨hz, a, b, hTO⟩ | ⟨T, f1, oT, hz, hT, n1, n2, n3, n4⟩
  · exact next_end (a := a) (b := b) hh D.toApart5 hz (.inl ⟨rfl, rfl, a, b, hTO⟩) Z.ti Z.a1 Z.li hv hQ
  · exact next_end (a := .none) (b := .none) hh D.toApart5 hz (.inr ⟨T, oT, rfl, hT⟩) Z.ti Z.a1 Z.li hv hQ
theorem ZS.dict {h h' : Heap} {z TI TO i1 i2 l d : Addr} {ty : String} {x : Str} {t : Tok} {xs : Array Value} {k : Nat} (D : ApartD z TI TO i1 i2 l d) (Z : ZS h z TI TO i1 i2 l d ty x t xs k) (hs : Heap.SameBut d h h') : ZS h' z TI TO i1 i2 l d ty x t xs k := by
  refine ⟨?_, hs.extBut _ _ D.dTI.symm Z.ti, Z.a1.extBut hs.extBut D.di1.symm, Z.a2.extBut hs.extBut D.di2.symm, Z.li.extBut hs.extBut D.dl.symm⟩
  rcases Z.zf with ⟨hz, a, b, hTO⟩ | ⟨T, f1, oT, hz, hT, n1, n2, n3, n4⟩
  · exact .inl ⟨hs.extBut _ _ D.dz.symm hz, a, b, hs.extBut _ _ D.dTO.symm hTO⟩
  · exact .inr ⟨T, f1, oT, hs.extBut _ _ D.dz.symm hz, hs.extBut _ _ n4 hT, n1, n2, n3, n4⟩
noncomputable def storedAll (kvs : List (K × Value)) (ps : List (K × Value)) : List (K × Value) := ps.foldl (fun acc p => stored acc p.1 p.2) kvs
theorem stored_len (kvs : List (K × Value)) (k : K) (v : Value) : (stored kvs k v).length ≤ kvs.length + 1 := by
  unfold stored
  split
  · rw [List.length_map]; omega
  · rw [List.length_append]; simp
theorem dict_loop {ty : String} (hty : ty = "str_ascii_iterator" ∨ ty = "str_iterator") {z TI TO i1 i2 l d : Addr} {x : Str} {t : Tok} {xs : Array Value} (D : ApartD z TI TO i1 i2 l d) (hh : A.handled = none) (ks : Nat → K) (hk : ∀ k v, xs[k]? = some v → knd.is (ks k) v = true)
    (hlen : xs.size ≤ x.cps.size) (hsz : xs.size ≤ sizeLine) : ∀ (m k : Nat) (i : Int) (s : Shared) (kvs : List (K × Value)), xs.size - k = m → k ≤ xs.size → ZS s.heap z TI TO i1 i2 l d ty x t xs k → s.heap.DictOf knd d kvs → kvs.length ≤ k →
    (∀ h' tk (ps : List (K × Value)), ps.length = xs.size - k → (∀ (j : Nat) p, ps[j]? = some p → p.1 = ks (k + j) ∧ ∃ c u, x.cps[k + j]? = some c ∧ p.2 = .str ⟨#[c]⟩ u) → h'.DictOf knd d (storedAll kvs ps) →
      (∀ c o, c ≠ z → c ≠ TO → c ≠ i1 → c ≠ i2 → c ≠ d → s.heap.get? c = some o → h'.get? c = some o) → R (.ok (.ret .none)) { s with heap := h', toks := tk }) →
    codeAny (model prog w) A (.builtin "dict.update.loop" ⟨[.ref d, .ref z, rawInt i, .none], []⟩) R s := by
  intro m
  induction m with
  | zero =>
    intro k i s kvs hm hkk Z hd hkl hR
    have hin : k = xs.size := by omega
    refine codeAny_builtin entry_upd ?_
    rw [Around.under_plainId plain_upd _]
    show wpAny _ A.in1 (pyNext (.ref z) >>= _) _ _ s
    refine wpAny_bind (zs_end (show A.in1.handled = none from hh) D Z (by rw [hin]; simp) fun h' hkeep => ?_)
    show wpAny _ _ (Builtin.Dict.addKeywords d [] >>= _) _ _ _
    refine wpAny_bind (wpAny_pure (wpAny_pure ?_))
    have hdn : d ≠ z := D.dz
    have hd' : h'.DictOf knd d kvs := by
      obtain ⟨o, es, ep, e1, r⟩ := hd
      exact ⟨o, es, ep, hkeep d o D.dz D.di1 e1, r⟩
    exact hR h' s.toks [] (by simp; omega) (fun j p e => by simp at e) hd' fun c o c1 _ c3 _ _ e => hkeep c o c1 c3 e
  | succ m ih =>
    intro k i s kvs hm hkk Z hd hkl hR
    have hlt : k < xs.size := by omega
    have hv : xs[k]? = some xs[k] := by simp [hlt]
    have hltc : k < x.cps.size := by omega
    have hc : x.cps[k]? = some x.cps[k] := by simp [hltc]
    obtain ⟨od, es0, ep0, hod, _⟩ := id hd
    refine codeAny_builtin entry_upd ?_
    rw [Around.under_plainId plain_upd _]
    show wpAny _ A.in1 (pyNext (.ref z) >>= _) _ _ s
    refine wpAny_bind (zs_next hty D Z hod hv hc fun h1 T u Z1 hT hTd hkeep => ?_)
    have hd1 : h1.DictOf knd d kvs := by
      obtain ⟨o, es, ep, e1, r⟩ := hd
      exact ⟨o, es, ep, hkeep d o D.dz D.dTO D.di1 D.di2 e1, r⟩
    refine wpAny_bind (wpAny_holding ?_)
    have hTy : (Shared.TypeIs { s with heap := h1, toks := s.toks + 1 } (.ref T) "tuple") := ⟨_, hT, rfl⟩
    refine wpAny_bind (wpAny_tryCatch ?_)
    unfold Builtin.Dict.pairItems
    refine wpAny_bind (wpAny_typeOf hTy ?_)
    rw [if_pos (by decide)]
    refine wpAny_bind (wpAny_seqItems hT rfl (wpAny_pure ?_))
    show wpAny _ _ (holding [xs[k], _] (dictSet d xs[k] _)) _ _ _
    refine wpAny_holding (wpAny_dictSet_pairs (hk k _ hv) hd1 (fun h2 hd2 hs2 => ?_) (by omega))
    refine wpAny_pure ⟨plainId_quiet plain_upd _, ih (k + 1) (i + 1) _ _ (by omega) (by omega) (ZS.dict D Z1 hs2) hd2 (Nat.le_trans (stored_len _ _ _) (by omega)) fun h3 tk ps hl hp hd3 hk3 => ?_⟩
    refine hR h3 tk ((ks k, .str ⟨#[x.cps[k]]⟩ u) :: ps) (by rw [List.length_cons, hl]; omega) (fun j p e => ?_) hd3 fun c o c1 c2 c3 c4 c5 e => hk3 c o c1 c2 c3 c4 c5 (hs2.extBut c o c5 (hkeep c o c1 c2 c3 c4 e))
    cases j with
    | zero =>
      have e' : (ks k, Value.str ⟨#[x.cps[k]]⟩ u) = p := by simpa using e
      subst e'
      exact ⟨rfl, x.cps[k], u, hc, rfl⟩
    | succ j =>
      have q := hp j p (by simpa using e)
      rw [show k + (j + 1) = k + 1 + j by omega]
      exact q
theorem code_dict_new {E : Value → Shared → Prop} {s : Shared} (a : Value) {Q : Value → Shared → Prop} (h : Q (.ref s.heap.objs.size) { s with heap := s.heap.push { cls := .type "dict", data := .dict #[] } }) :
    codeAny (model prog w) A (.call (.builtin "dict.__new__") ⟨[.type "dict", a], []⟩) (wants Q E) s := by
  refine codeAny_call_builtin plain_dict_new entry_dict_new (wpAny_of_eq (newCall_dict_1 a) ?_)
  have hsub := sub_dict
  have hmro := mro_dict
  obtain ⟨hp, g, d, tk, os⟩ := s
  unfold Builtin.«dict.__new__»
  wp_walk
  exact h
theorem call_dict {E : Value → Shared → Prop} {s : Shared} {ty : String} (hty : ty = "str_ascii_iterator" ∨ ty = "str_iterator") {z TI TO i1 i2 l : Addr} {x : Str} {t : Tok} {xs : Array Value} {Q : Value → Shared → Prop} (D : Apart5 z TI TO i1 i2 l) (hh : A.handled = none) (ks : Nat → K)
    (hk : ∀ k v, xs[k]? = some v → knd.is (ks k) v = true) (hlen : xs.size ≤ x.cps.size) (hsz : xs.size ≤ sizeLine) (hz : IsZ s.heap z TI TO .none false) (hTI : IsPair s.heap TI (.ref i1) (.ref i2)) (hTO : ∃ a b, IsPair s.heap TO a b)
    (h1 : s.heap.IsListIter i1 l 0) (h2 : s.heap.IsStrIter i2 ty x t 0) (hl : s.heap.IsList l xs)
    (h : ∀ h' tk (ps : List (K × Value)), ps.length = xs.size → (∀ (j : Nat) p, ps[j]? = some p → p.1 = ks j ∧ ∃ c u, x.cps[j]? = some c ∧ p.2 = .str ⟨#[c]⟩ u) → h'.DictOf knd s.heap.objs.size (storedAll [] ps) →
      (∀ c o, c ≠ z → c ≠ TO → c ≠ i1 → c ≠ i2 → s.heap.get? c = some o → h'.get? c = some o) → Q (.ref s.heap.objs.size) { s with heap := h', toks := tk }) :
    wpAny (model prog w) A (call (.type "dict") [.ref z]) Q E s := by
  refine callType_codes (Q₁ := fun obj s1 => obj = .ref s.heap.objs.size ∧ s1 = { s with heap := s.heap.push { cls := .type "dict", data := .dict #[] } }) called_dict (typeCall_dict_1 _) F.entry_dict_init (code_dict_new _ ⟨rfl, rfl⟩) ?_
  rintro obj s1 ⟨rfl, rfl⟩
  have up : ∀ c o, s.heap.get? c = some o → (s.heap.push { cls := .type "dict", data := .dict #[] }).get? c = some o := fun c o e => Heap.get?_push_of_some _ e
  have hnew : (s.heap.push { cls := .type "dict", data := .dict #[] }).DictOf knd s.heap.objs.size [] := Heap.DictOf.new s.heap
  have lt : ∀ {c o}, s.heap.get? c = some o → s.heap.objs.size ≠ c := fun e => Nat.ne_of_gt (Heap.lt_size e)
  have l1 : s.heap.objs.size ≠ i1 := by obtain ⟨_, e, _⟩ := h1; exact lt e
  have l2 : s.heap.objs.size ≠ i2 := by obtain ⟨_, e, _⟩ := h2; exact lt e
  have ll : s.heap.objs.size ≠ l := by obtain ⟨_, e, _⟩ := hl; exact lt e
  obtain ⟨a0, b0, hTO'⟩ := hTO
  have DD : ApartD z TI TO i1 i2 l s.heap.objs.size := ⟨D, lt hz, lt hTI, lt hTO', l1, l2, ll⟩
  refine ⟨hnew.typeIs, F.args_dict_init_2 _ _, ?_⟩
  unfold Builtin.«dict.__init__»
  refine wpAny_bind ?_
  unfold Builtin.Dict.selfAndRest
  refine wpAny_bind (wpAny_notOrdered_dict hnew.typeIs ?_)
  show wpAny _ _ (pure (s.heap.objs.size, [Value.ref z])) _ _ _
  refine wpAny_pure ?_
  show wpAny _ _ (Builtin.Dict.updateFrom "dict.__init__" s.heap.objs.size (.ref z) [] .none) _ _ _
  unfold Builtin.Dict.updateFrom
  have hzT : Shared.TypeIs { s with heap := s.heap.push { cls := .type "dict", data := .dict #[] } } (.ref z) "zip" := ⟨_, up _ _ hz, rfl⟩
  refine wpAny_bind (wpAny_typeOf hzT ?_)
  rw [if_pos (by decide)]
  refine wpAny_bind (keys_miss (up _ _ hz) (show A.in1.in1.handled = none from hh) fun h3 tk k3 => ?_)
  simp only [Option.isNone_none, if_true]
  refine wpAny_bind (wpAny_rule ?_)
  have hz3 : IsZ h3 z TI TO .none false := k3 _ _ (up _ _ hz)
  refine wpAny_bind (wpAny_pyIter_zip (z := z) (TI := TI) (TO := TO) (f0 := .none) hz3 ?_)
  refine wpAny_pure ⟨plainId_quiet plain_upd _, ?_⟩
  have Z3 : ZS h3 z TI TO i1 i2 l s.heap.objs.size ty x t xs 0 := ⟨.inl ⟨hz3, a0, b0, k3 _ _ (up _ _ hTO')⟩, k3 _ _ (up _ _ hTI), h1.at fun o e => k3 _ o (up _ o e), (let ⟨o, e, r⟩ := h2; ⟨o, k3 _ o (up _ o e), r⟩), hl.at fun o e => k3 _ o (up _ o e)⟩
  have hd3 : h3.DictOf knd s.heap.objs.size [] := by
    obtain ⟨o, es, ep, e1, r⟩ := hnew
    exact ⟨o, es, ep, k3 _ _ e1, r⟩
  refine dict_loop hty DD (show A.in1.handled = none from hh) ks hk hlen hsz xs.size 0 0 _ [] (by simp) (Nat.zero_le _) Z3 hd3 (Nat.le_refl _) fun h4 tk4 ps hp1 hp2 hd4 hk4 => ?_
  refine ⟨rfl, h h4 tk4 ps (by simpa using hp1) (fun j p e => by simpa using hp2 j p e) hd4 fun c o c1 c2 c3 c4 e => hk4 c o c1 c2 c3 c4 (lt e).symm (k3 _ _ (up _ _ e))⟩
end
end LZ
set_option Elab.async false
set_option linter.all false
set_option maxRecDepth 100000
set_option maxHeartbeats 4000000
namespace L2
open PySem PySem.Spec PyProof.Rows
noncomputable def putAll (kvs : List (Key × V)) : List (Key × V) → List (Key × V)
  | [] => kvs
  | p :: r => putAll (putK kvs p.1 p.2) r
noncomputable def zipped (ns : List Str) (z : Str) : List (Key × V) := (ns.zipIdx).map fun p => (Sum.inr p.1, signV z p.2)
theorem kv_all : ∀ {qs : List (Key × V)} {ps : List (Key × Value)} {kvs : List (Key × V)} {vs : List (Key × Value)}, KV qs ps → KV kvs vs → KV (putAll kvs qs) (LZ.storedAll vs ps)
  | [], _, _, _, h, r => by cases h; exact r
  | q :: qs, p :: ps, kvs, vs, h, r => by
    cases h with
    | cons h1 h2 =>
      show KV (putAll (putK kvs q.1 q.2) qs) (LZ.storedAll (stored vs p.1 p.2) ps)
      rw [← h1.1]
      exact kv_all h2 (r.put q.1 h1.2)
theorem paired_get {α β : Type} {F : α → β → Prop} : ∀ {xs : List α} {ys : List β}, xs.length = ys.length → (∀ (j : Nat) x y, xs[j]? = some x → ys[j]? = some y → F x y) → Paired F xs ys
  | [], [], _, _ => .nil
  | x :: xs, y :: ys, hl, h => .cons (h 0 x y rfl rfl) (paired_get (by simpa using hl) fun j a b e1 e2 => h (j + 1) a b (by simpa using e1) (by simpa using e2))
theorem length_putAll : ∀ (qs kvs : List (Key × V)), (putAll kvs qs).length ≤ kvs.length + qs.length
  | [], kvs => Nat.le_refl _
  | q :: qs, kvs => by
    have h1 := length_putAll qs (putK kvs q.1 q.2)
    have h2 := length_putK kvs q.1 q.2
    show (putAll (putK kvs q.1 q.2) qs).length ≤ _
    rw [List.length_cons]
    omega
section
variable {X : Cx} {a b : Expr} {ta : TA} {p1 p2 pos1 pos2 : Pos}
noncomputable def tDzip (K : PySem.W.Frag) (ta : TA) : TE := fun σ H Q => ta σ H fun vs H1 => ∃ l ns z, vs = [.ref l, .str z] ∧ SqL K H1 l (ns.map V.str) ∧ ns.length ≤ z.cps.size ∧ ns.length < 1000 ∧ ∀ d, H1 d = none → Q (.ref d) (upd H1 d (.dK (putAll [] (zipped ns z))))
theorem pe_dzip (hc : X.calm = true) (hg : Gl X "dict") (hm : X.mg "dict" = none) (hg2 : Gl X "zip") (hm2 : X.mg "zip" = none) (ha : PA X [a, b] ta)
    (hs : starEach [a, b] X.env = [(false, eval a X.env), (false, eval b X.env)] := by rfl) (hs2 : starEach [b] X.env = [(false, eval b X.env)] := by rfl)
    (hs0 : starEach [.Call (.Name "zip" p2) [a, b] [] pos2] X.env = [(false, eval (.Call (.Name "zip" p2) [a, b] [] pos2) X.env)] := by rfl) :
    PE X (.Call (.Name "dict" p1) [.Call (.Name "zip" p2) [a, b] [] pos2] [] pos1) (tDzip X.K ta) := by
  intro pins s σ H Q I h
  refine Call_ (ld_blt I hg hm PyProof.Rows.boot_dict (PyProof.Rows.callWith_type1 ?_ hs0 rfl))
  rw [hs0]
  show wpAny _ _ (spliced [(false, eval (.Call (.Name "zip" p2) [a, b] [] pos2) X.env)]) _ _ s
  refine Calls.spliced_cons ?_
  refine Call_ (ld_blt I hg2 hm2 PyProof.Rows.boot_zip (PyProof.Rows.callWith_type1 (thn (ha pos2 pins s σ H _ I h) fun us s1 ⟨vs, H1, I1, r1, q1⟩ => ?_) (by rw [hs, hs2]) (by rw [hs2]; rfl)))
  obtain ⟨l, ns, z, e, hl, hlen, hsm, q⟩ := q1
  subst e
  obtain ⟨u1, u2, e, ru1, ru2⟩ := vals2 r1
  subst e
  cases ru1
  obtain ⟨t, e⟩ := ru2
  subst e
  obtain ⟨its, rv, pl, _⟩ := I1.list hl
  have hits : its.length = ns.length := by have := rv.length; rw [List.length_map] at this; exact this.symm
  refine LZ.call_zip pl.isList fun h2 b1 b2 b3 b4 b5 b6 b7 => ?_
  refine Calls.spliced_nil ?_
  have I2 : Inv X pins σ H1 { s1 with heap := h2 } := I1.kept (t' := s1.toks) b7
  have ltl : @LT.lt Nat _ l s1.heap.objs.size := by obtain ⟨o, ho, _⟩ := pl.isList; exact Heap.lt_size ho
  have big : 1000 < sizeLine := by decide
  refine LZ.call_dict (knd := mixKind X.prog X.w) (LZ.tyOf_is z) (i1 := s1.heap.objs.size) (i2 := s1.heap.objs.size + 1) (l := l) (xs := its.toArray) ⟨(by show @Ne Nat _ _; omega), (by show @Ne Nat _ _; omega), (by show @Ne Nat _ _; omega), (by show @Ne Nat _ _; omega), (by show @Ne Nat _ _; omega), (by show @Ne Nat _ _; omega), (by show @Ne Nat _ _; omega), (by show @Ne Nat _ _; omega), (by show @Ne Nat _ _; omega), (by show @Ne Nat _ _; omega), (by show @Ne Nat _ _; omega), (by show @Ne Nat _ _; omega), (by show @Ne Nat _ _; omega), (by show @Ne Nat _ _; omega)⟩ (I.ok.hd hc) (fun k => Sum.inr (ns.getD k Str.empty)) (fun k v hv => ?_)
    (by rw [List.size_toArray, hits]; exact hlen) (by rw [List.size_toArray, hits]; omega) b1 b2 ⟨_, _, b3⟩ b4 b5 (pl.isList.at fun o e => b7 _ o e) fun h3 tk ps hp1 hp2 hd3 hk3 => ?_
  · have hv' : its[k]? = some v := by simpa using hv
    have hk : k < ns.length := by have := (List.getElem?_eq_some_iff.mp hv').1; omega
    have e1 : (ns.map V.str)[k]? = some (.str (ns.getD k Str.empty)) := by
      rw [List.getElem?_map, List.getElem?_eq_getElem hk, List.getD_eq_getElem?_getD, List.getElem?_eq_getElem hk]; rfl
    obtain ⟨u, hu, ru⟩ := rv.get e1
    rw [hv'] at hu
    cases hu
    obtain ⟨t', e⟩ := ru
    subst e
    exact mixKind_str _ _ _ _
  · have hlenz : (zipped ns z).length = ns.length := by unfold zipped; simp
    have kv : KV (zipped ns z) ps := by
      refine paired_get (by rw [hlenz, hp1, List.size_toArray, hits]) fun j x y e1 e2 => ?_
      obtain ⟨f1, c, u, f2, f3⟩ := hp2 j y e2
      unfold zipped at e1
      rw [List.getElem?_map, List.getElem?_zipIdx] at e1
      cases e : ns[j]? with
      | none => rw [e] at e1; simp at e1
      | some n =>
        rw [e] at e1
        simp at e1
        subst e1
        refine ⟨?_, ?_⟩
        · rw [f1]
          show (Sum.inr n : Key) = Sum.inr (ns.getD j Str.empty)
          rw [List.getD_eq_getElem?_getD, e]; rfl
        · rw [f3]
          refine ⟨u, ?_⟩
          show Value.str ⟨#[c]⟩ u = Value.str ⟨#[z.cps.getD j 0]⟩ u
          rw [Array.getD_eq_getD_getElem?, f2]; rfl
    have hnew : H1 h2.objs.size = none := I2.hok.fresh (Nat.le_refl _)
    have kept : ∀ c o, s1.heap.get? c = some o → h3.get? c = some o := fun c o e => by
      have : @LT.lt Nat _ c s1.heap.objs.size := Heap.lt_size e
      exact hk3 c o (by show @Ne Nat _ _; omega) (by show @Ne Nat _ _; omega) (by show @Ne Nat _ _; omega) (by show @Ne Nat _ _; omega) (b7 c o e)
    have hle : s1.heap.objs.size ≤ h2.objs.size := by omega
    have I3 : Inv X pins σ (upd H1 h2.objs.size (.dK (putAll [] (zipped ns z)))) { s1 with heap := h3, toks := tk } := I1.laid kept hle ⟨by
        have := length_putAll (zipped ns z) []
        rw [hlenz] at this
        simp only [List.length_nil] at this
        omega, beq_eq_false_iff_ne.mpr (by
        have : @LT.lt Nat _ sysModules s1.heap.objs.size := I1.big
        intro e
        have e' : @Eq Nat h2.objs.size sysModules := e
        omega), _, kv_all kv .nil, hd3⟩
    exact ⟨.ref h2.objs.size, _, I3, rfl, q _ hnew⟩
end
end L2
set_option Elab.async false
set_option linter.all false
set_option maxRecDepth 100000
set_option maxHeartbeats 4000000
namespace XE
open PySem
open Sem (wp)
structure XN (fs : List Addr) (e T : Addr) (oe : Obj) (h h' : Heap) : Prop where
  keep : ∀ b o, b ≠ e → b ∉ fs → h.get? b = some o → h'.get? b = some o
  slot : ∀ b o, b ≠ e → h.get? b = some o → ∃ sl, h'.get? b = some { o with slots := sl }
  at_ : h'.get? e = some (oe.mapFields (·.setIfInBounds 1 (.ref T)))
  new : h.get? T = none
section
variable {M : Model} {A : Around} {E : Value → Shared → Prop} {s : Shared}
structure Tr (e T : Addr) (h : Heap) : Prop where
  ex : ∃ oe vs oT ts, h.get? e = some oe ∧ oe.data = .fields vs ∧ vs[1]? = some (.ref T) ∧ h.get? T = some oT ∧ oT.data = .fields ts ∧ ts[3]? = some .none
  ne : T ≠ e
structure XL (fs : List Addr) (e : Addr) (Ts : List Addr) (h h' : Heap) : Prop where
  keep : ∀ b o, b ≠ e → b ∉ Ts → b ∉ fs → h.get? b = some o → h'.get? b = some o
  slot : ∀ b o, b ≠ e → b ∉ Ts → h.get? b = some o → ∃ sl, h'.get? b = some { o with slots := sl }
  at_ : ∀ oe, h.get? e = some oe → ∃ oe', h'.get? e = some oe' ∧ oe'.cls = oe.cls ∧ oe'.dict = oe.dict
end
end XE
set_option Elab.async false
set_option linter.all false
set_option maxRecDepth 100000
set_option maxHeartbeats 4000000
namespace XE
open PySem
structure XC (g : Heap) (C : Addr) (B new : String) (up top : List Value) : Prop where
  obj : ∃ nm q N bs hd sn sub ab col dd a0 a1 a2 a3 a5, g.get? C = some (excClassObj nm q C N bs up hd sn sub ab col dd a0 a1 a2 a3 a5 new)
  tail : OwnTail g top up
theorem XC.keeps {g g' : Heap} {C : Addr} {B new : String} {up top : List Value} (x : XC g C B new up top) (k : ∀ b o, g.get? b = some o → g'.get? b = some o) : XC g' C B new up top := by
  obtain ⟨a1, a2, a3, a4, a5, a6, a7, a8, a9, a10, a11, a12, a13, a14, a15, e⟩ := x.obj
  exact ⟨⟨a1, a2, a3, a4, a5, a6, a7, a8, a9, a10, a11, a12, a13, a14, a15, k _ _ e⟩, x.tail.keeps k⟩
section
variable {P : Program} {w : World} {A : Around} {E : Value → Shared → Prop} {g : Heap} {gs : Array GenState} {dr : Drawn} {tk : Nat} {os : OsState} {C : Addr} {B new init : String} {up top : List Value}
end
end XE
set_option Elab.async false
set_option linter.all false
set_option maxRecDepth 100000
set_option maxHeartbeats 1000000
namespace XE
open PySem PySem.W PySem.Calls PyProof.Rows Builtin Builtin.ObjectAttr
abbrev vmro : List Value := [.type "ValueError", .type "Exception", .type "BaseException", .type "object"]
structure XKl (K : Frag) (C NE : Addr) : Prop where
  mr : ((clsIn K C).any fun cd => cd.mro == .ref C :: .ref NE :: vmro) = true
  ga : findIn K (.ref C) "__getattribute__" = some (some (.builtin "BaseException.__getattribute__"))
  gh : findIn K (.ref C) "__getattr__" = some none
  sb : subIn K (.ref C) (.type "BaseException") = some true
  hd : hasDictIn K C = true
  cl : findIn K (.ref C) "__class__" = some (some (.builtin "object.__class__"))
  cg : specialIn K (.builtin "object.__class__") "__get__" = some (some (.builtin "getset_descriptor.__get__"))
  ct : takesIn K (.builtin "object.__class__") = some true
  ob : mroIn K C (.type "object") = some true
  sa : findIn K (.ref C) "__setattr__" = some (some (.builtin "object.__setattr__"))
section
variable {P : Program} {w : World} {A : Around} {E : Value → Shared → Prop} {R : Result → Shared → Prop} {s : Shared} {K : Frag} {x C NE : Addr} {ox : Obj} {od : Option Obj} {name : Str}
end
end XE
set_option Elab.async false
set_option linter.all false
set_option maxRecDepth 100000
set_option maxHeartbeats 1000000
namespace L2
open PySem PySem.Spec PyProof.Rows PySem.Calls
noncomputable def XOk (e C : Addr) (d : Option Addr) (fresh : Bool) (h : Heap) : Prop := ∃ o vs, h.get? e = some o ∧ o.cls = .ref C ∧ o.dict = d ∧ o.data = .fields vs ∧ (fresh = true → ∃ t, vs = #[.ref t, .none, .none, .none, .bool false, .none])
abbrev XO (e C : Addr) (d : Option Addr) (fresh : Bool) : HO := .ext (XOk e C d fresh)
section
variable {P : Program} {w : World} {H H1 H2 : Hp} {h h1 h2 : Heap} {a e C L : Addr} {d : Option Addr} {b : Bool} {o u : HO} {fs Ts : List Addr}
theorem ObjOk.there (x : ObjOk P w H h a o) : ∃ u, h.get? a = some u := by
  induction o with
  | lst xs => obtain ⟨_, _, _, _, e⟩ := x; exact ⟨_, e⟩
  | tup xs => obtain ⟨_, _, _, _, e, _⟩ := x; exact ⟨_, e⟩
  | dK kvs => obtain ⟨_, _, _, _, o, _, _, e, _⟩ := x; exact ⟨_, e⟩
  | dT kvs => obtain ⟨_, _, _, _, o, _, _, e, _⟩ := x; exact ⟨_, e⟩
  | set S n => obtain ⟨o, _, _, _, e, _⟩ := x; exact ⟨_, e⟩
  | ins C dx fs => obtain ⟨_, _, _, e, _⟩ := x; exact ⟨_, e⟩
  | own y => obtain ⟨_, e⟩ := x; exact ⟨_, e⟩
  | xd fs => obtain ⟨_, ⟨_, _, _, e, _⟩, _⟩ := x; exact ⟨_, e⟩
  | rng lo hi => obtain ⟨_, _, _, e⟩ := x; exact ⟨_, e⟩
  | frz ob u ih => obtain ⟨e, _⟩ := x; exact ⟨_, e⟩
  | tbl ps => exact ⟨_, (show h.get? a = some _ from x)⟩
  | met f y => exact ⟨_, (show h.get? a = some _ from x)⟩
  | ext φ => obtain ⟨_, e, _⟩ := x; exact e
end
noncomputable def CX1 (P : Program) (w : World) : CXT := fun outer H s E ev s' => ∃ (e C T : Addr) (d : Option Addr) (H' : Hp), ev = .ref e ∧ s'.os = s.os ∧ AllBare s'.gens ∧ Un (frs outer) [] H H' s.heap s'.heap ∧ HOk P w H' s'.heap ∧
  H' e = some (XO e C d false) ∧ s.heap.get? T = none ∧ H' T = none ∧ XE.Tr e T s'.heap ∧ E (.ref C) (some e) H'
section
variable {P : Program} {w : World} {K : PySem.W.Frag} {mg : Str → Option Value} {base : Heap} {N : List Str} {qual : Str} {scope : Scope} {f : Addr} {cd : Value} {A : Around} {outer : List Env} {s s1 : Shared} {H H1 : Hp} {E : XK} {pins : List (Addr × Obj)} {σ : St} {e C : Addr} {d : Option Addr}
end
section
variable {X : Cx} {pins : List (Addr × Obj)} {σ : St} {H : Hp} {s : Shared}
end
section
variable {X : Cx}
structure XMk (K : PySem.W.Frag) (C NE : Addr) : Prop where
  xc : ∀ h : Heap, K.In h → XE.XC h C "ValueError" "ValueError.__new__" (.ref NE :: XE.vmro) XE.vmro
  kp : PySem.W.keepIn K (.ref C) = true
  kl : XE.XKl K C NE
end
end L2
set_option Elab.async false
set_option linter.all false
set_option maxRecDepth 100000
set_option maxHeartbeats 1000000
namespace L2
open PySem PySem.Spec PyProof.Rows PySem.Calls
section
variable {X : Cx}
end
end L2
set_option Elab.async false
set_option linter.all false
set_option maxRecDepth 100000
set_option maxHeartbeats 1000000
namespace XE
open PySem PySem.W PySem.Calls PyProof.Rows
section
variable {P : Program} {w : World} {A : Around} {E : Value → Shared → Prop} {g : Heap} {gs : Array GenState} {dr : Drawn} {tk : Nat} {os : OsState} {C : Addr} {B new init : String} {up top : List Value}
end
section
variable {P : Program} {w : World} {A : Around} {E : Value → Shared → Prop} {s : Shared} {K : Frag} {x C NE : Addr} {ox : Obj} {od : Option Obj}
end
end XE
namespace L2
open PySem PySem.Spec PyProof.Rows PySem.Calls
section
variable {X : Cx}
end
section
variable {P : Program} {w : World} {K : PySem.W.Frag} {mg : Str → Option Value} {base : Heap} {N : List Str} {qual : Str} {scope : Scope} {f : Addr} {cd : Value} {A : Around} {outer : List Env} {s : Shared} {H : Hp} {E : XK}
end
section
variable {X : Cx}
noncomputable def XP (X : Cx) (pins : List (Addr × Obj)) (σ : St) (E : XK) (ev : Value) (s' : Shared) : Prop := ∃ H1 s1, Inv X pins σ H1 s1 ∧ CX1 X.prog X.w X.stack H1 s1 E ev s'
end
end L2
set_option Elab.async false
set_option linter.all false
set_option maxRecDepth 100000
set_option maxHeartbeats 4000000
namespace L2
open PySem PySem.Spec PyProof.Rows
section
variable {X : Cx}
theorem strs_back : ∀ {ys : List Str} {us : List Value}, StrsAre us ys → Vals (ys.map V.str) us
  | _, _, .nil => .nil
  | _, _, .cons x t h => .cons ⟨t, rfl⟩ (strs_back h)
noncomputable def rSorted : List V → Hp → VK → Prop := fun xs H Q => ∃ (l : Addr) (ss : List Str), xs = [.ref l] ∧ H l = some (.lst (ss.map V.str)) ∧ ss.length < 64 ∧ ∀ p ss', H p = none → ss'.Perm ss → sortedS ss' = true → Q (.ref p) (upd H p (.lst (ss'.map V.str)))
theorem call_sorted : CallR X (.builtin "sorted") rSorted := by
  intro pins s σ H xs us Q I r h
  obtain ⟨l, ss, rfl, hH, hz, q⟩ := h
  obtain ⟨u, rfl, ru⟩ := vals1 r
  cases ru
  obtain ⟨z, its, n, r, hl, e⟩ := I.lstM hH
  have sa := strsAre_of r
  rw [List.length_map] at hl z
  refine sorted_strs ⟨_, e, rfl, n, rfl⟩ sa (by omega) fun out ss' so pm st => ?_
  have vo := strs_back so
  have lo : ss'.length = ss.length := pm.length_eq
  obtain ⟨en, at'⟩ := sortedAll_at s.heap its out
  have hle : s.heap.objs.size ≤ s.heap.objs.size + 1 := Nat.le_succ _
  refine ⟨.ref (s.heap.objs.size + 1), _, I.laid (o := .lst (ss'.map V.str)) (t' := s.toks) (fun _ _ g => sortedAll_old g) hle ⟨by rw [List.length_map]; omega, out.toList, en, vo, at'⟩, rfl, q _ ss' (I.hok.fresh hle) pm st⟩
end
end L2
set_option Elab.async false
set_option linter.all false
set_option maxRecDepth 100000
set_option maxHeartbeats 4000000
namespace LZ
open PySem
section
variable {prog : Program} {w : World} {A : Around} {E : Value → Shared → Prop} {s : Shared}
theorem list_getattr_none : typeLookup (.type "list") "__getattr__" = pure none := by rw [typeLookup_type, builtinLookup_eq_fast]; kernel_rfl
theorem list_keys_none : typeLookup (.type "list") "keys" = pure none := by rw [typeLookup_type, builtinLookup_eq_fast]; kernel_rfl
theorem entry_list_getattribute : entryFor table "list.__getattribute__" = some Builtin.«object.__getattribute__» :=
  entryFor_alias (id' := "object.__getattribute__") (by kernel_rfl) (by decide +kernel) (by decide +kernel) (by kernel_rfl)
theorem meets_miss_list (a : Addr) (xs : Array Value) (m : Nat) (sl : Array (Option Value)) (u : Tok) :
    Meets (Builtin.«object.__getattribute__» ⟨[.ref a, .str "keys" u], []⟩) (fun A R s => s.heap.get? a = some { cls := .type "list", dict := none, data := .seq xs m, slots := sl } ∧ raisesAttr (.ref a) "keys" A R s) :=
  Meets.of_wp fun prog w A R s hs => by
    obtain ⟨hp, g, d, tk, os⟩ := s
    obtain ⟨hx, hs⟩ := hs
    have hT : (⟨hp, g, d, tk, os⟩ : Shared).TypeIs (.ref a) "list" := ⟨_, hx, rfl⟩
    have hmiss := list_keys_none
    have hname : (["__module__", "__name__", "__qualname__", "__doc__", "__annotations__"] : List Str).contains "keys" = false := by decide +kernel
    unfold Builtin.«object.__getattribute__»
    repeat (any_goals (first | assumption | wp_step))
    try simp only [hname, Bool.false_eq_true, if_false]
    repeat (any_goals (first | assumption | wp_step))
    exact wpAny_raiseAttrError hs.1 hs.2 (attrMsg_fits (by decide +kernel) (by decide +kernel))
theorem keys_missL {a : Addr} {xs : Array Value} {m : Nat} {sl : Array (Option Value)} {Q : Option Value → Shared → Prop} (hx : s.heap.get? a = some { cls := .type "list", dict := none, data := .seq xs m, slots := sl }) (hA : A.handled = none)
    (h : ∀ h' tk, (∀ c o, s.heap.get? c = some o → h'.get? c = some o) → Q none { s with heap := h', toks := tk }) : wpAny (model prog w) A (getAttr? (.ref a) "keys") Q E s := by
  obtain ⟨hp, g, d, tk, os⟩ := s
  have hT : ∀ tk', (⟨hp, g, d, tk', os⟩ : Shared).TypeIs (.ref a) "list" := fun _ => ⟨_, hx, rfl⟩
  have f1 := sub_AttributeError
  have f3 := F.slot_list_getattribute.lookup
  have f4 := F.slot_list_getattribute.bind (.ref a)
  have f5 := list_getattr_none
  unfold getAttr? getAttrBy? getAttrBy
  repeat (any_goals (first | assumption | exact hT _ | ((with_reducible show wpAny _ _ (call (Value.builtin "list.__getattribute__") _ _) _ _ _); refine call_meets F.slot_list_getattribute (hT _) entry_list_getattribute (F.args_list_getattribute_2 _ _) (meets_miss_list a xs m sl _) ⟨hx, hA, fun h' tk' e hx' => ?_⟩) | wp_step))
  obtain ⟨t', u', he⟩ := hx'.there
  show wpAny _ _ (getattributeRaised _ _ _ _ _ _ _) _ _ _
  unfold getattributeRaised
  repeat (any_goals (first | assumption | wp_step))
  all_goals exact h _ _ hx'.keeps
end
section
variable {prog : Program} {w : World} {K : Type} [DecidableEq K] {knd : KeyKind prog w K} {A : Around} {R : Result → Shared → Prop}
noncomputable def PairsAt (h : Heap) (xs : Array Value) (ka va : Nat → Value) (it d : Addr) : Prop := ∀ k, k < xs.size → ∃ (T : Addr) (o : Obj) (n : Nat), xs[k]? = some (.ref T) ∧ h.get? T = some o ∧ o.cls = .type "tuple" ∧ o.data = .seq #[ka k, va k] n ∧ T ≠ it ∧ T ≠ d
theorem PairsAt.keep {h h' : Heap} {xs : Array Value} {ka va : Nat → Value} {it d : Addr} (p : PairsAt h xs ka va it d) (hk : ∀ c o, c ≠ it → c ≠ d → h.get? c = some o → h'.get? c = some o) : PairsAt h' xs ka va it d := fun k hlt =>
  let ⟨T, o, n, e1, e2, e3, e4, e5, e6⟩ := p k hlt; ⟨T, o, n, e1, hk T o e5 e6 e2, e3, e4, e5, e6⟩
theorem dict_loopL {it l d : Addr} {xs : Array Value} {ka va : Nat → Value} (nid : d ≠ it) (nil : l ≠ it) (ndl : l ≠ d) (hh : A.handled = none) (ks : Nat → K) (hk : ∀ k, k < xs.size → knd.is (ks k) (ka k) = true) (hsz : xs.size ≤ sizeLine) :
    ∀ (m k : Nat) (i : Int) (s : Shared) (kvs : List (K × Value)), xs.size - k = m → k ≤ xs.size → s.heap.IsListIter it l k → s.heap.IsList l xs → PairsAt s.heap xs ka va it d → s.heap.DictOf knd d kvs → kvs.length ≤ k →
    (∀ h' tk, h'.DictOf knd d (storedAll kvs ((List.range (xs.size - k)).map fun j => (ks (k + j), va (k + j)))) → (∀ c o, c ≠ it → c ≠ d → s.heap.get? c = some o → h'.get? c = some o) → R (.ok (.ret .none)) { s with heap := h', toks := tk }) →
    codeAny (model prog w) A (.builtin "dict.update.loop" ⟨[.ref d, .ref it, rawInt i, .none], []⟩) R s := by
  intro m
  induction m with
  | zero =>
    intro k i s kvs hm hkk hit hl hp hd hkl hR
    have hin : k = xs.size := by omega
    refine codeAny_builtin entry_upd ?_
    rw [Around.under_plainId plain_upd _]
    show wpAny _ A.in1 (pyNext (.ref it) >>= _) _ _ s
    refine wpAny_bind (wpAny_pyNext_list_end (show A.in1.handled = none from hh) hit hl (by rw [hin]; simp) fun h' hkeep => ?_)
    show wpAny _ _ (Builtin.Dict.addKeywords d [] >>= _) _ _ _
    refine wpAny_bind (wpAny_pure (wpAny_pure ?_))
    have hd' : h'.DictOf knd d kvs := by
      obtain ⟨o, es, ep, e1, r⟩ := hd
      exact ⟨o, es, ep, hkeep d o nid e1, r⟩
    refine hR h' s.toks ?_ fun c o c1 _ e => hkeep c o c1 e
    rw [hm]
    exact hd'
  | succ m ih =>
    intro k i s kvs hm hkk hit hl hp hd hkl hR
    have hlt : k < xs.size := by omega
    obtain ⟨T, oT, n, hx, hT, hTc, hTd, nTi, nTd⟩ := hp k hlt
    refine codeAny_builtin entry_upd ?_
    rw [Around.under_plainId plain_upd _]
    show wpAny _ A.in1 (pyNext (.ref it) >>= _) _ _ s
    refine wpAny_bind (wpAny_pyNext_list_item hit hl hx fun h1 hit1 hs1 => ?_)
    have k1 : ∀ c o, c ≠ it → s.heap.get? c = some o → h1.get? c = some o := fun c o n1 e => hs1.extBut c o n1 e
    have hd1 : h1.DictOf knd d kvs := by
      obtain ⟨o, es, ep, e1, r⟩ := hd
      exact ⟨o, es, ep, k1 d o nid e1, r⟩
    have hT1 := k1 T oT nTi hT
    refine wpAny_bind (wpAny_holding ?_)
    have hTy : (Shared.TypeIs { s with heap := h1 } (.ref T) "tuple") := ⟨_, hT1, hTc⟩
    refine wpAny_bind (wpAny_tryCatch ?_)
    unfold Builtin.Dict.pairItems
    refine wpAny_bind (wpAny_typeOf hTy ?_)
    rw [if_pos (by decide)]
    refine wpAny_bind (wpAny_seqItems hT1 hTd (wpAny_pure ?_))
    show wpAny _ _ (holding [ka k, va k] (dictSet d (ka k) (va k))) _ _ _
    refine wpAny_holding (wpAny_dictSet_pairs (hk k hlt) hd1 (fun h2 hd2 hs2 => ?_) (by omega))
    have k2 : ∀ c o, c ≠ it → c ≠ d → s.heap.get? c = some o → h2.get? c = some o := fun c o n1 n2 e => hs2.extBut c o n2 (k1 c o n1 e)
    refine wpAny_pure ⟨plainId_quiet plain_upd _, ih (k + 1) (i + 1) _ _ (by omega) (by omega) (hit1.extBut hs2.extBut (Ne.symm nid)) (hl.at fun o e => k2 l o nil ndl e) (hp.keep k2) hd2 (Nat.le_trans (stored_len _ _ _) (by omega)) fun h3 tk hd3 hk3 => ?_⟩
    refine hR h3 tk ?_ fun c o c1 c2 e => hk3 c o c1 c2 (k2 c o c1 c2 e)
    rw [show xs.size - k = (xs.size - (k + 1)) + 1 from by omega, List.range_succ_eq_map, List.map_cons, List.map_map]
    have e : (List.range (xs.size - (k + 1))).map (fun j => (ks (k + 1 + j), va (k + 1 + j))) = (List.range (xs.size - (k + 1))).map ((fun j => (ks (k + j), va (k + j))) ∘ Nat.succ) := List.map_congr_left fun j _ => by simp [Function.comp, Nat.add_assoc, Nat.add_comm 1]
    rw [e] at hd3
    exact hd3
theorem call_dictL {E : Value → Shared → Prop} {s : Shared} {l : Addr} {xs : Array Value} {ka va : Nat → Value} {Q : Value → Shared → Prop} (hh : A.handled = none) (ks : Nat → K) (hk : ∀ k, k < xs.size → knd.is (ks k) (ka k) = true) (hsz : xs.size ≤ sizeLine) (hl : PlainL s.heap l xs)
    (hp : ∀ k, k < xs.size → ∃ (T : Addr) (o : Obj) (n : Nat), xs[k]? = some (.ref T) ∧ s.heap.get? T = some o ∧ o.cls = .type "tuple" ∧ o.data = .seq #[ka k, va k] n)
    (h : ∀ h' tk, h'.DictOf knd s.heap.objs.size (storedAll [] ((List.range xs.size).map fun j => (ks j, va j))) → (∀ c o, s.heap.get? c = some o → h'.get? c = some o) → Q (.ref s.heap.objs.size) { s with heap := h', toks := tk }) :
    wpAny (model prog w) A (call (.type "dict") [.ref l]) Q E s := by
  refine callType_codes (Q₁ := fun obj s1 => obj = .ref s.heap.objs.size ∧ s1 = { s with heap := s.heap.push { cls := .type "dict", data := .dict #[] } }) called_dict (typeCall_dict_1 _) F.entry_dict_init (code_dict_new _ ⟨rfl, rfl⟩) ?_
  rintro obj s1 ⟨rfl, rfl⟩
  have up : ∀ c o, s.heap.get? c = some o → (s.heap.push { cls := .type "dict", data := .dict #[] }).get? c = some o := fun c o e => Heap.get?_push_of_some _ e
  have hnew : (s.heap.push { cls := .type "dict", data := .dict #[] }).DictOf knd s.heap.objs.size [] := Heap.DictOf.new s.heap
  have lt : ∀ {c o}, s.heap.get? c = some o → s.heap.objs.size ≠ c := fun e => Nat.ne_of_gt (Heap.lt_size e)
  obtain ⟨⟨c0, d0, dt0, sl0⟩, n0, ho, hoc, hod, hos⟩ := hl
  have hoc : c0 = .type "list" := hoc
  have hod : d0 = none := hod
  have hos : dt0 = .seq xs n0 := hos
  subst hoc hod hos
  refine ⟨hnew.typeIs, F.args_dict_init_2 _ _, ?_⟩
  unfold Builtin.«dict.__init__»
  refine wpAny_bind ?_
  unfold Builtin.Dict.selfAndRest
  refine wpAny_bind (wpAny_notOrdered_dict hnew.typeIs ?_)
  show wpAny _ _ (pure (s.heap.objs.size, [Value.ref l])) _ _ _
  refine wpAny_pure ?_
  show wpAny _ _ (Builtin.Dict.updateFrom "dict.__init__" s.heap.objs.size (.ref l) [] .none) _ _ _
  unfold Builtin.Dict.updateFrom
  have hzT : Shared.TypeIs { s with heap := s.heap.push { cls := .type "dict", data := .dict #[] } } (.ref l) "list" := ⟨_, up _ _ ho, rfl⟩
  refine wpAny_bind (wpAny_typeOf hzT ?_)
  rw [if_pos (by decide)]
  refine wpAny_bind (keys_missL (up _ _ ho) (show A.in1.in1.handled = none from hh) fun h3 tk k3 => ?_)
  simp only [Option.isNone_none, if_true]
  refine wpAny_bind (wpAny_rule ?_)
  have hL3 : h3.IsList l xs := ⟨_, k3 _ _ (up _ _ ho), rfl, n0, rfl⟩
  have hd3 : h3.DictOf knd s.heap.objs.size [] := by
    obtain ⟨o, es, ep, e1, r⟩ := hnew
    exact ⟨o, es, ep, k3 _ _ e1, r⟩
  obtain ⟨od, es, ep, hd3', r3⟩ := id hd3
  refine wpAny_bind (wpAny_pyIter_list hL3 ?_)
  refine wpAny_pure ⟨plainId_quiet plain_upd _, ?_⟩
  have up4 : ∀ c o, h3.get? c = some o → (h3.push { cls := .type "list_iterator", data := .fields #[.ref l, .int 0 0] }).get? c = some o := fun c o e => Heap.get?_push_of_some _ e
  have lt3 : ∀ {c o}, h3.get? c = some o → c ≠ h3.objs.size := fun e => Nat.ne_of_lt (Heap.lt_size e)
  refine dict_loopL (it := h3.objs.size) (l := l) (d := s.heap.objs.size) (ka := ka) (va := va) (lt3 hd3') (lt3 (k3 _ _ (up _ _ ho))) (lt ho).symm (show A.in1.handled = none from hh) ks hk hsz xs.size 0 0 _ [] (by simp) (Nat.zero_le _) ⟨_, Heap.get?_push_size _ rfl, rfl, rfl⟩ (hL3.at fun o e => up4 _ o e) (fun k hlt => ?_) ⟨od, es, ep, up4 _ _ hd3', r3⟩ (Nat.le_refl _) fun h5 tk5 hd5 hk5 => ?_
  · obtain ⟨T, o, n, e1, e2, e3, e4⟩ := hp k hlt
    exact ⟨T, o, n, e1, up4 _ _ (k3 _ _ (up _ _ e2)), e3, e4, lt3 (k3 _ _ (up _ _ e2)), (lt e2).symm⟩
  · refine ⟨rfl, h h5 tk5 (by simpa using hd5) fun c o e => hk5 c o (lt3 (k3 _ _ (up _ _ e))) (lt e).symm (up4 _ _ (k3 _ _ (up _ _ e)))⟩
end
end LZ
set_option Elab.async false
set_option linter.all false
set_option maxRecDepth 100000
set_option maxHeartbeats 4000000
namespace L2
open PySem PySem.Spec PyProof.Rows
noncomputable def PrAt (H : Hp) (v : V) (p : Str × V) : Prop := ∃ b, v = .ref b ∧ H b = some (.tup [.str p.1, p.2])
noncomputable def keyed (ps : List (Str × V)) : List (Key × V) := ps.map fun p => ((Sum.inr p.1 : Key), p.2)
section
variable {X : Cx} {a : Expr} {ta : TA} {p1 pos1 : Pos}
noncomputable def tDpairs (K : PySem.W.Frag) (ta : TA) : TE := fun σ H Q => ta σ H fun vs H1 => ∃ l xs ps, vs = [.ref l] ∧ SqL K H1 l xs ∧ xs.length < 1000 ∧ Paired (PrAt H1) xs ps ∧ ∀ d, H1 d = none → Q (.ref d) (upd H1 d (.dK (putAll [] (keyed ps))))
theorem pr_at {H : Hp} : ∀ {xs : List V} {ps : List (Str × V)}, Paired (PrAt H) xs ps → ∀ (j : Nat) x, xs[j]? = some x → ∃ y, ps[j]? = some y ∧ PrAt H x y
  | _, _, .nil => fun j x e => by simp at e
  | _, _, .cons (a := a) (b := b) h t => fun j x e => by
    cases j with
    | zero => simp at e; subst e; exact ⟨_, rfl, h⟩
    | succ j => simp at e; obtain ⟨y, e', f⟩ := pr_at t j x e; exact ⟨y, by simpa using e', f⟩
theorem pr_len {H : Hp} : ∀ {xs : List V} {ps : List (Str × V)}, Paired (PrAt H) xs ps → xs.length = ps.length
  | _, _, .nil => rfl
  | _, _, .cons h t => by simp [pr_len t]
theorem pe_dpairs (hc : X.calm = true) (hg : Gl X "dict") (hm : X.mg "dict" = none) (ha : PA X [a] ta) (hs : starEach [a] X.env = [(false, eval a X.env)] := by rfl) : PE X (.Call (.Name "dict" p1) [a] [] pos1) (tDpairs X.K ta) := by
  intro pins s σ H Q I h
  refine Call_ (ld_blt I hg hm PyProof.Rows.boot_dict (PyProof.Rows.callWith_type1 (thn (ha pos1 pins s σ H _ I h) fun us s1 ⟨vs, H1, I1, r1, q1⟩ => ?_) hs rfl))
  obtain ⟨l, xs, ps, e, hl, hsm, hpr, q⟩ := q1
  subst e
  obtain ⟨u1, e, ru1⟩ := vals1 r1
  subst e
  cases ru1
  obtain ⟨its, rv, pl, _⟩ := I1.list hl
  have hits : its.length = xs.length := rv.length.symm
  have hps := pr_len hpr
  have big : 1000 < sizeLine := by decide
  have each : ∀ k, ∃ g : Value × Value × Str, k < its.length → ∃ (T : Addr) (o : Obj) (m : Nat) (v : V) (t : Tok), its[k]? = some (.ref T) ∧ s1.heap.get? T = some o ∧ o.cls = .type "tuple" ∧ o.data = .seq #[g.1, g.2.1] m ∧ g.1 = .str g.2.2 t ∧ ps[k]? = some (g.2.2, v) ∧ RelV v g.2.1 := fun k => by
    by_cases hk : k < its.length
    · have hx : xs[k]? = some (xs[k]'(by omega)) := by simp
      obtain ⟨y, hy, b, eb, hb⟩ := pr_at hpr k _ hx
      obtain ⟨u, hu, ru⟩ := rv.get hx
      rw [eb] at ru
      cases ru
      obtain ⟨its2, rv2, ⟨o, e1, e2, n, e3⟩, _⟩ := I1.tuple (SqT.of hb)
      obtain ⟨w1, w2, e4, r1, r2⟩ := vals2 rv2
      subst e4
      obtain ⟨t, et⟩ := r1
      subst et
      exact ⟨(.str y.1 t, w2, y.1), fun _ => ⟨b, o, n, y.2, t, hu, e1, e2, e3, rfl, hy, r2⟩⟩
    · exact ⟨(.none, .none, Str.empty), fun h => absurd h hk⟩
  let g := fun k => Classical.choose (each k)
  have hg' : ∀ k, k < its.length → ∃ (T : Addr) (o : Obj) (m : Nat) (v : V) (t : Tok), its[k]? = some (.ref T) ∧ s1.heap.get? T = some o ∧ o.cls = .type "tuple" ∧ o.data = .seq #[(g k).1, (g k).2.1] m ∧ (g k).1 = .str (g k).2.2 t ∧ ps[k]? = some ((g k).2.2, v) ∧ RelV v (g k).2.1 := fun k => Classical.choose_spec (each k)
  refine LZ.call_dictL (knd := mixKind X.prog X.w) (l := l) (xs := its.toArray) (ka := fun k => (g k).1) (va := fun k => (g k).2.1) (I1.ok.hd hc) (fun k => (Sum.inr (g k).2.2 : Key)) (fun k hk => ?_) (by rw [List.size_toArray, hits]; omega) pl (fun k hk => ?_) fun h3 tk hd3 kept => ?_
  · rw [List.size_toArray] at hk
    obtain ⟨T, o, m, v, t, _, _, _, _, e5, _⟩ := hg' k hk
    show (mixKind X.prog X.w).is _ (g k).1 = true
    rw [e5]
    exact mixKind_str _ _ _ _
  · rw [List.size_toArray] at hk
    obtain ⟨T, o, m, v, t, e1, e2, e3, e4, _⟩ := hg' k hk
    exact ⟨T, o, m, by simpa using e1, e2, e3, e4⟩
  · rw [List.size_toArray] at hd3
    have kv : KV (keyed ps) ((List.range its.length).map fun j => ((Sum.inr (g j).2.2 : Key), (g j).2.1)) := by
      unfold keyed
      refine paired_get (by simp [hits, hps]) fun j x y e1 e2 => ?_
      rw [List.getElem?_map] at e1 e2
      have hj : j < its.length := by
        cases e : (List.range its.length)[j]? with
        | none => rw [e] at e2; cases e2
        | some q => have := (List.getElem?_eq_some_iff.mp e).1; simpa using this
      obtain ⟨T, o, m, v, t, _, _, _, _, _, e6, e7⟩ := hg' j hj
      rw [e6] at e1
      rw [List.getElem?_range hj] at e2
      cases e1
      cases e2
      exact ⟨rfl, e7⟩
    have hnew : H1 s1.heap.objs.size = none := I1.hok.fresh (Nat.le_refl _)
    have I3 : Inv X pins σ (upd H1 s1.heap.objs.size (.dK (putAll [] (keyed ps)))) { s1 with heap := h3, toks := tk } := I1.laid kept (Nat.le_refl _) ⟨by
        have := length_putAll (keyed ps) []
        have e : (keyed ps).length = ps.length := by unfold keyed; simp
        simp only [List.length_nil] at this
        omega, beq_eq_false_iff_ne.mpr (by
        have : @LT.lt Nat _ sysModules s1.heap.objs.size := I1.big
        intro e
        have e' : @Eq Nat s1.heap.objs.size sysModules := e
        omega), _, kv_all kv .nil, hd3⟩
    exact ⟨.ref s1.heap.objs.size, _, I3, rfl, q _ hnew⟩
end
end L2
set_option Elab.async false
set_option linter.all false
set_option maxRecDepth 100000
set_option maxHeartbeats 4000000
namespace LS
open PySem PySem.Spec PyProof.Rows
noncomputable def met (g : Nat → Str) : Nat → List Str
  | 0 => []
  | i + 1 => if g i ∈ met g i then met g i else met g i ++ [g i]
theorem met_le (g : Nat → Str) : ∀ i, (met g i).length ≤ i
  | 0 => Nat.le_refl _
  | i + 1 => by
    have q := met_le g i
    show (if g i ∈ met g i then met g i else met g i ++ [g i]).length ≤ i + 1
    split
    · omega
    · simp; omega
theorem met_mem (g : Nat → Str) (x : Str) : ∀ i, x ∈ met g i ↔ ∃ j, j < i ∧ g j = x
  | 0 => by simp [met]
  | i + 1 => by
    have q := met_mem g x i
    have e : x ∈ met g (i + 1) ↔ x ∈ met g i ∨ x = g i := by
      show x ∈ (if g i ∈ met g i then met g i else met g i ++ [g i]) ↔ _
      by_cases h : g i ∈ met g i
      · rw [if_pos h]
        exact ⟨.inl, fun z => z.elim id fun z => z ▸ h⟩
      · rw [if_neg h]; simp
    rw [e, q]
    constructor
    · rintro (⟨j, a, b⟩ | a)
      · exact ⟨j, by omega, b⟩
      · exact ⟨i, by omega, a.symm⟩
    · rintro ⟨j, a, b⟩
      rcases Nat.lt_succ_iff_lt_or_eq.mp a with c | c
      · exact .inl ⟨j, c, b⟩
      · subst c; exact .inr b.symm
section
variable {prog : Program} {w : World} {A : Around} {R : Result → Shared → Prop} {I S : Addr} {fp wr : List Addr} {G : Array GenState → Array GenState → Prop} {n : Nat} {P : Nat → Value → Prop} {St : Nat → Shared → Prop}
abbrev IsSet (prog : Program) (w : World) (h : Heap) (S : Addr) (g : Nat → Str) (i : Nat) : Prop := h.SetOf (strKind prog w) S (fun x => decide (x ∈ met g i)) (met g i).length
theorem IsSet.at {h h' : Heap} {g : Nat → Str} {i : Nat} (q : IsSet prog w h S g i) (k : ∀ o, h.get? S = some o → h'.get? S = some o) : IsSet prog w h' S g i := by
  obtain ⟨o, es, ep, t, e, r⟩ := q
  exact ⟨o, es, ep, t, k _ e, r⟩
theorem set_loop (W : WalksS prog w A.in1 I fp wr G n P St) (nS : S ∉ fp) (g : Nat → Str) (hg : ∀ i v, P i v → ∃ t, v = .str (g i) t) (hb : n + 1 < scanBound) :
    ∀ (m i : Nat) (s : Shared), n - i = m → i ≤ n → St i s → IsSet prog w s.heap S g i → (∀ s', Moved (S :: wr) G s s' → IsSet prog w s'.heap S g n → R (.ok (.ret .none)) s') →
      codeAny (model prog w) A (.builtin "set.update.loop" ⟨[.ref S, .ref I], []⟩) R s := by
  have nW : S ∉ wr := fun z => nS (W.sub _ z)
  have more : ∀ b ∈ wr, b ∈ S :: wr := fun b z => List.mem_cons_of_mem _ z
  intro m
  induction m with
  | zero =>
    intro i s em hi st q fin
    obtain rfl : i = n := by omega
    refine codeAny_builtin F.entry_set_update_loop ?_
    rw [Around.under_plainId F.plain_set_update_loop _]
    show wpAny _ A.in1 (pyNext (.ref I) >>= _) _ _ s
    exact wpAny_bind (W.done s _ _ st fun s1 mv => wpAny_pure (fin s1 (mv.mono more) (q.at fun o e => mv.heap S _ nW e)))
  | succ m ih =>
    intro i s em hi st q fin
    have lt : i < n := by omega
    refine codeAny_builtin F.entry_set_update_loop ?_
    rw [Around.under_plainId F.plain_set_update_loop _]
    show wpAny _ A.in1 (pyNext (.ref I) >>= _) _ _ s
    refine wpAny_bind (W.item i s _ _ lt st fun v s1 hP st1 mv => ?_)
    obtain ⟨t, rfl⟩ := hg i v hP
    have q1 := q.at fun o e => mv.heap S _ nW e
    show wpAny _ A.in1 (holding [Value.str (g i) t] (setAdd S (.str (g i) t)) >>= _) _ _ s1
    refine wpAny_bind (wpAny_holding ?_)
    unfold setAdd
    refine wpAny_holding (wpAny_bind ((strKind prog w).pyHash (k := g i) (strKind_is _ _ _ _) ?_))
    have room : (met g i).length + 1 < scanBound := by have := met_le g i; omega
    refine wpAny_setAddHashed_of (knd := strKind prog w) (s := { s1 with toks := s1.toks + 1 }) (strKind_is _ _ _ _) rfl q1 room fun h2 sb q2 => ?_
    have q3 : IsSet prog w h2 S g (i + 1) := by
      refine SetOf_congr q2 (fun x => ?_) ?_
      · show (decide (x ∈ met g i) || decide (x = g i)) = decide (x ∈ (if g i ∈ met g i then met g i else met g i ++ [g i]))
        by_cases z : g i ∈ met g i
        · rw [if_pos z]
          by_cases y : x = g i
          · subst y; simp [z]
          · simp [y]
        · rw [if_neg z]; simp
      · show (if decide (g i ∈ met g i) = true then _ else _) = (if g i ∈ met g i then met g i else met g i ++ [g i]).length
        by_cases z : g i ∈ met g i
        · simp [z]
        · simp [z]
    refine wpAny_pure ⟨plainId_quiet F.plain_set_update_loop _, ih (i + 1) _ (by omega) lt (W.frame _ s1 _ _ st1 (Nat.le_succ _) fun b z o e => ?_) q3 fun s3 mv3 q4 => ?_⟩
    · rw [sb.2 b (fun y : b = S => nS (by rw [← y]; exact z))]; exact e
    · refine fin s3 (Moved.trans W.gtrans ((mv.mono more).then_heap (Nat.le_succ _) fun b o z e => ?_) mv3) q4
      rw [sb.2 b (fun y : b = S => z (by rw [y]; exact List.mem_cons_self))]; exact e
end
section
variable {prog : Program} {w : World} {A : Around} {E : Value → Shared → Prop} {s : Shared}
abbrev bare (led : Bool) : Obj := { cls := .type "set", dict := none, data := .set #[] 0 (.fresh 0 0 led) }
theorem call_set_txt {l : Addr} {its : Array Value} {g : Nat → Str} {Q : Value → Shared → Prop} (hh : A.handled = none) (hl : s.heap.IsList l its) (hi : ∀ (i : Nat) (v : Value), its[i]? = some v → ∃ t, v = .str (g i) t) (hb : its.size + 1 < scanBound)
    (h : ∀ (h1 : Heap) (tk : Nat), IsSet prog w h1 s.heap.objs.size g its.size → (∀ b o, s.heap.get? b = some o → h1.get? b = some o) → Q (.ref s.heap.objs.size) { s with heap := h1, toks := tk }) :
    wpAny (model prog w) A (call (.type "set") [.ref l]) Q E s := by
  obtain ⟨cl, tl, mro⟩ := F.called_set.mro
  have y1 := F.called_set.made
  have y2 := F.called_set.sub
  refine wpAny_call (codeAny_of_tree ?_)
  show wpAny _ _ (callAny (.type "set") ⟨[.ref l], []⟩) _ _ _
  refine wpAny_pure ⟨Code.quiet_builtin _ (by decide +kernel), codeAny_builtin F.entry_type_call ?_⟩
  rw [Around.under_plain (weight_type_call_type "set" [.ref l] []) rfl]
  have y3 := F.called_set.notType
  have y4 := F.called_set.canCreate
  have y5 := F.typeCall_set_1 (.ref l)
  repeat (any_goals (first | assumption | wp_step))
  refine codeAny_mono (code_set_new_1 (.ref l) (E := E) (Q₁ := fun v s1 => ∃ led : Bool, v = .ref s.heap.objs.size ∧ s1 = { s with heap := s.heap.push (bare led) }) fun led => ⟨led, rfl, rfl⟩) fun r s1 hr => ?_
  cases r with
  | error e => exact hr
  | ok fl =>
    cases fl with
    | ret obj =>
      obtain ⟨led, rfl, rfl⟩ := hr
      have hS : (s.heap.push (bare led)).get? s.heap.objs.size = some (bare led) := Heap.get?_push_size _ rfl
      have hT : Shared.TypeIs { s with heap := s.heap.push (bare led) } (.ref s.heap.objs.size) "set" := ⟨_, hS, rfl⟩
      have y6 := F.called_set.init.lookup
      have y7 := F.called_set.init.bind (.ref s.heap.objs.size)
      repeat (any_goals (first | assumption | wp_step))
      refine codeAny_mono (codeAny_call_builtin (R := wants (fun v s2 => v = .none ∧ ∃ h1 tk, s2 = { s with heap := h1, toks := tk } ∧ IsSet prog w h1 s.heap.objs.size g its.size ∧ ∀ b o, s.heap.get? b = some o → h1.get? b = some o) E) F.called_set.init.plain F.entry_set_init (check_set_init_1 hT ?_)) fun r2 s2 hr2 => ?_
      · obtain ⟨ol, hol, hcl, nl, hdl⟩ := hl
        obtain ⟨ocls, odict, odata, oslots⟩ := ol
        simp only at hcl hdl
        subst hcl; subst hdl
        have hol1 : (s.heap.push (bare led)).get? l = some { cls := .type "list", dict := odict, data := .seq its nl, slots := oslots } := Heap.get?_push_of_some _ hol
        have y8 := F.sub_list_set
        have y9 := F.sub_list_frozenset
        have y0 : (Value.type "list" == Value.type "dict") = false := by decide
        have hl1 : (s.heap.push (bare led)).IsList l its := ⟨_, hol1, rfl, nl, rfl⟩
        unfold Builtin.«set.__init__» noKeywords Builtin.Frozenset.updateFrom
        generalize hPI : pyIter = PI
        wp_walk
        subst hPI
        refine wpAny_pyIter_list hl1 ?_
        refine wpAny_bind (wpAny_runValue ?_)
        have lS : l < s.heap.objs.size := Heap.lt_size hol
        have nI : l ≠ (s.heap.push (bare led)).objs.size := by
          rw [Heap.size_push]; exact Nat.ne_of_lt (Nat.lt_succ_of_lt lS)
        have nF : s.heap.objs.size ∉ [(s.heap.push (bare led)).objs.size, l] := by
          rw [Heap.size_push]; simp only [List.mem_cons, List.mem_singleton, List.not_mem_nil, or_false, not_or]
          exact ⟨Nat.ne_of_lt (Nat.lt_succ_self _), Nat.ne_of_gt lS⟩
        refine set_loop ((Walks.list (show A.in1.in1.in1.handled = none by simp [hh]) _ l nI its).toS) nF g hi hb (its.size - 0) 0 _ (by omega) (Nat.zero_le _) ⟨⟨_, Heap.get?_push_size _ rfl, rfl, rfl⟩, (hl1.push _)⟩ ?_ fun s3 mv q => ?_
        · have e : ((s.heap.push (bare led)).push { cls := .type "list_iterator", data := .fields #[.ref l, .int 0 0] }).get? s.heap.objs.size = some (bare led) := Heap.get?_push_of_some _ hS
          exact SetOf_congr ((setObjOf_fresh (knd := strKind prog w) led).setOf e (by unfold scanBound; omega)) (fun _ => by simp [met]) rfl
        · obtain ⟨h3, g3, d3, tk3, os3⟩ := s3
          obtain rfl : g3 = s.gens := mv.gens
          obtain rfl : d3 = s.drawn := mv.drawn
          obtain rfl : os3 = s.os := mv.os
          show wpAny _ _ _ _ _ _
          refine wpAny_pure ?_
          show wpAny _ _ (ret Value.none) _ _ _
          refine wpAny_pure ⟨rfl, h3, tk3, rfl, q, fun b o e => ?_⟩
          have lb := Heap.lt_size e
          have z1 : b ≠ s.heap.objs.size := Nat.ne_of_lt lb
          have z2 : b ≠ (s.heap.push (bare led)).objs.size := by
            rw [Heap.size_push]; exact Nat.ne_of_lt (Nat.lt_succ_of_lt lb)
          exact mv.heap b o (by simp only [List.mem_cons, List.mem_singleton, List.not_mem_nil, or_false, not_or]; exact ⟨z1, z2⟩) (Heap.get?_push_of_some _ (Heap.get?_push_of_some _ e))
      · cases r2 with
        | error e => exact hr2
        | ok fl2 =>
          cases fl2 with
          | ret r =>
            obtain ⟨rfl, h1, tk, rfl, q, k⟩ := hr2
            repeat (any_goals (first | assumption | wp_step))
            exact h _ _ q k
          | _ => exact hr2.elim
    | _ => exact hr.elim
end
end LS
set_option Elab.async false
set_option linter.all false
set_option maxRecDepth 100000
set_option maxHeartbeats 4000000
namespace L2
open PySem PySem.Spec PyProof.Rows
noncomputable def uniq (ts : List Str) : Nat := (LS.met (fun i => ts.getD i Str.empty) ts.length).length
section
variable {X : Cx} {a : Expr} {ta : TA} {p p1 pos pos1 : Pos}
noncomputable def tLenSet (K : PySem.W.Frag) (ta : TA) : TE := fun σ H Q => ta σ H fun vs H1 => ∃ l ts, vs = [.ref l] ∧ SqL K H1 l (ts.map V.str) ∧ ts.length < 1000 ∧ Q (.int (uniq ts)) H1
theorem pe_lenset (hc : X.calm = true) (hg : Gl X "len") (hm : X.mg "len" = none) (hg1 : Gl X "set") (hm1 : X.mg "set" = none) (ha : PA X [a] ta) (hs : starEach [a] X.env = [(false, eval a X.env)] := by rfl)
    (he : starEach [.Call (.Name "set" p1) [a] [] pos1] X.env = [(false, eval (.Call (.Name "set" p1) [a] [] pos1) X.env)] := by rfl) :
    PE X (.Call (.Name "len" p) [.Call (.Name "set" p1) [a] [] pos1] [] pos) (tLenSet X.K ta) := by
  intro pins s σ H Q I h
  refine wpAny_Call_Name_kw (ld_blt I hg hm PySem.boot_len ?_)
  refine PyProof.Rows.callWith_builtin1 ?_ he rfl
  rw [he]
  show wpAny _ _ (spliced ((false, eval (.Call (.Name "set" p1) [a] [] pos1) X.env) :: backTo pos [])) _ _ s
  refine Calls.spliced_cons ?_
  refine Call_ (ld_blt I hg1 hm1 PyProof.Rows.boot_set (PyProof.Rows.callWith_type1 (thn (ha pos1 pins s σ H _ I h) fun us s1 z => ?_) hs rfl))
  obtain ⟨vs, H1, I1, r1, l, ts, e, hl, hsm, q⟩ := z
  subst e
  obtain ⟨u1, e, ru1⟩ := vals1 r1
  subst e
  cases ru1
  obtain ⟨its, rv, pl, _⟩ := I1.list hl
  have hlen : its.length = ts.length := by rw [← rv.length, List.length_map]
  refine LS.call_set_txt (its := its.toArray) (g := fun i => ts.getD i Str.empty) (I1.ok.hd hc) pl.isList (fun i v hv => ?_) (by rw [List.size_toArray, hlen]; unfold scanBound; omega) fun h3 tk q3 kept => ?_
  · have hv' : its[i]? = some v := by simpa using hv
    have hi : i < ts.length := by
      have := (List.getElem?_eq_some_iff.mp hv').1
      omega
    have e1 : (ts.map V.str)[i]? = some (.str (ts.getD i Str.empty)) := by
      rw [List.getElem?_map, List.getElem?_eq_getElem hi, List.getD_eq_getElem?_getD, List.getElem?_eq_getElem hi]; rfl
    obtain ⟨u, hu, ru⟩ := rv.get e1
    rw [hv'] at hu
    cases hu
    obtain ⟨t, e2⟩ := ru
    exact ⟨t, e2⟩
  · refine Calls.spliced_nil ?_
    have hz : its.toArray.size = ts.length := by rw [List.size_toArray]; exact hlen
    rw [hz] at q3
    obtain ⟨o, es, ep, t, ho, hex, hd, _, _, _, hf, hn⟩ := q3
    have hle := LS.met_le (fun i => ts.getD i Str.empty) ts.length
    refine PySem.call_len_set ho hex hd hf (by rw [hn]; omega) ?_
    exact ⟨.int (uniq ts), H1, I1.kept (t' := tk + 1 + 1) kept, ⟨tk + 1, by rw [hn]; rfl⟩, q⟩
end
end L2
namespace LS
open PySem
theorem met_full (g : Nat → Str) : ∀ n, (met g n).length = n ↔ ∀ i j, i < n → j < n → g i = g j → i = j
  | 0 => ⟨fun _ i j h => absurd h (Nat.not_lt_zero _), fun _ => rfl⟩
  | n + 1 => by
    have ih := met_full g n
    have le := met_le g n
    have e : (met g (n + 1)).length = if g n ∈ met g n then (met g n).length else (met g n).length + 1 := by
      show (if g n ∈ met g n then met g n else met g n ++ [g n]).length = _
      split <;> simp
    constructor
    · intro h
      rw [e] at h
      have ni : g n ∉ met g n := fun z => by rw [if_pos z] at h; omega
      rw [if_neg ni] at h
      have old := ih.mp (by omega)
      have no : ∀ j, j < n → g j ≠ g n := fun j hj z => ni ((met_mem g _ n).mpr ⟨j, hj, z⟩)
      intro i j hi hj hg
      rcases Nat.lt_succ_iff_lt_or_eq.mp hi with a | a <;> rcases Nat.lt_succ_iff_lt_or_eq.mp hj with b | b
      · exact old i j a b hg
      · subst b; exact absurd hg (no i a)
      · subst a; exact absurd hg.symm (no j b)
      · omega
    · intro h
      have old := ih.mpr fun i j a b => h i j (by omega) (by omega)
      have ni : g n ∉ met g n := fun z => by
        obtain ⟨j, hj, q⟩ := (met_mem g _ n).mp z
        have := h j n (by omega) (by omega) q
        omega
      rw [e, if_neg ni]
      omega
end LS
namespace L2
open PySem
theorem uniq_all {ts : List Str} : uniq ts = ts.length ↔ ts.Nodup := by
  unfold uniq List.Nodup
  rw [LS.met_full, List.pairwise_iff_getElem]
  have at_ : ∀ (i : Nat) (hi : i < ts.length), ts.getD i Str.empty = ts[i] := fun i hi => by rw [List.getD_eq_getElem?_getD, List.getElem?_eq_getElem hi]; rfl
  constructor
  · intro h i j hi hj hij hq
    have := h i j hi hj (by rw [at_ i hi, at_ j hj, hq])
    omega
  · intro h i j hi hj hg
    rw [at_ i hi, at_ j hj] at hg
    by_cases a : i < j
    · exact absurd hg (h i j hi hj a)
    · by_cases b : j < i
      · exact absurd hg.symm (h j i hj hi b)
      · omega
end L2
set_option Elab.async false
set_option linter.all false
set_option maxRecDepth 100000
set_option maxHeartbeats 4000000
namespace L2
open PySem PySem.Spec PyProof.Rows
section
variable {X : Cx}
noncomputable def rIxTurn (T : Addr) : R2 := fun x y H Q => x = .ref T ∧ ((y = .str "0" ∧ Q (.str "1") H) ∨ (y = .str "1" ∧ Q (.str "0") H))
theorem ix_turn {T : Addr} (hT : tabAt X.K T [("0", .flat (.str "1")), ("1", .flat (.str "0"))]) : IxR X (rIxTurn T) := by
  intro value slice pins s σ H x y v u Q I rx ry h hs
  obtain ⟨e1, h⟩ := h
  subst e1
  cases rx
  have here : KTD.Here X.base s.heap T [("0", .flat (.str "1")), ("1", .flat (.str "0"))] := ⟨KTD.text_of_look (get := fun a => X.K.lookup a) (fun a o e => I.mod.kin a o e) hT, I.bk⟩
  rcases h with ⟨e, q⟩ | ⟨e, q⟩
  · subst e
    obtain ⟨t, e⟩ := ry
    subst e
    refine KTD.item_textA here (by rfl) (by decide +kernel) ?_ hs
    have e : decide (("0" : Str) = "0") = true := by decide +kernel
    simp only [KTD.EachL, e, if_true]
    exact fun t => ⟨.str "1", H, I.tok _, ⟨_, rfl⟩, q⟩
  · subst e
    obtain ⟨t, e⟩ := ry
    subst e
    refine KTD.item_textA here (by rfl) (by decide +kernel) ?_ hs
    have e : decide (("1" : Str) = "0") = false := by decide +kernel
    simp only [KTD.EachL, e, Bool.false_eq_true, if_false]
    exact fun _ t => ⟨.str "0", H, I.tok _, ⟨_, rfl⟩, q⟩
end
end L2
set_option Elab.async false
set_option linter.all false
set_option maxRecDepth 100000
set_option maxHeartbeats 4000000
namespace L2
open PySem PySem.Spec PyProof.Rows
abbrev partsD : List (Str × KTD.Dat) := [("wire", .flat (.int 2)), ("not", .flat (.int 2)), ("and", .flat (.int 3)), ("or", .flat (.int 3))]
noncomputable def partsN : List (Str × Int) := [("wire", 2), ("not", 2), ("and", 3), ("or", 3)]
noncomputable def tParts (ty : TE) : TE := fun σ H Q => ty σ H fun y H1 => ∃ p ∈ partsN, y = .str p.1 ∧ Q (.int p.2) H1
section
variable {X : Cx} {o e : Expr} {apos cpos : Pos} {ty : TE} {T : Addr}
theorem pe_parts (hT : tabAt X.K T partsD) (ho : PE X o (tC (.ref T))) (he : PE X e ty) (m : M1 X o "get" apos e cpos) : PE X (.Call (.Attribute o "get" apos) [e] [] cpos) (tParts ty) := by
  intro pins s σ H Q I h
  refine wpAny_Call_method m.base m.few m.line PySem.F.plainAttrs_dict PySem.F.slot_dict_get PySem.F.type_dict_get (thn (ho pins s σ H (fun x H1 => x = .ref T ∧ H1 = H) I ⟨rfl, rfl⟩) fun u s1 z => ?_)
  obtain ⟨x, H1, I1, rx, ex, eh⟩ := z
  subst ex eh
  obtain rfl : u = Value.ref T := rx
  have here : ∀ {s' : Shared} {H' : Hp}, Inv X pins σ H' s' → KTD.Here X.base s'.heap T partsD := fun J => ⟨KTD.text_of_look (get := fun a => X.K.lookup a) (fun a o e => J.mod.kin a o e) hT, J.bk⟩
  refine ⟨(here I1).typeIs, (here I1).noDict, ?_⟩
  rw [m.trees]
  refine Calls.callWith_builtin rfl (Calls.evalArgs_plain (Calls.spliced_cons (thn (he pins s1 σ H1 _ I1 h) fun iv s2 z => Calls.spliced_nil ?_)))
  obtain ⟨y, H2, I2, ry, p, hp, ey, q2⟩ := z
  subst ey
  obtain ⟨t, e⟩ := ry
  subst e
  simp only [partsN, List.mem_cons, List.not_mem_nil, or_false] at hp
  rcases hp with e | e | e | e
  all_goals (subst e; refine KTD.get1_textL (here I2) (by decide +kernel) ?_)
  · simp only [KTD.EachL, show decide (("wire" : Str) = "wire") = true by decide +kernel, if_true]
    exact fun t => ⟨.int 2, H2, I2.tok _, ⟨_, rfl⟩, q2⟩
  · simp only [KTD.EachL, show decide (("not" : Str) = "wire") = false by decide +kernel, show decide (("not" : Str) = "not") = true by decide +kernel, if_true, Bool.false_eq_true, if_false]
    exact fun t => ⟨.int 2, H2, I2.tok _, ⟨_, rfl⟩, q2⟩
  · simp only [KTD.EachL, show decide (("and" : Str) = "wire") = false by decide +kernel, show decide (("and" : Str) = "not") = false by decide +kernel, show decide (("and" : Str) = "and") = true by decide +kernel, if_true, Bool.false_eq_true, if_false]
    exact fun t => ⟨.int 3, H2, I2.tok _, ⟨_, rfl⟩, q2⟩
  · simp only [KTD.EachL, show decide (("or" : Str) = "wire") = false by decide +kernel, show decide (("or" : Str) = "not") = false by decide +kernel, show decide (("or" : Str) = "and") = false by decide +kernel, Bool.false_eq_true, if_false]
    exact fun _ t => ⟨.int 3, H2, I2.tok _, ⟨_, rfl⟩, q2⟩
end
end L2
set_option Elab.async false
set_option linter.all false
namespace L2
open PySem PySem.Spec PyProof.Rows
section
variable {K : PySem.W.Frag} {g : TG} {te : TE} {σ0 : St} {QD : Hp → Prop} {H1 : Hp} {D : Addr}
theorem comp_tup {a : Addr} {xs : List V} (Pv : Nat → Hp → List V → Prop) (h0 : Pv 0 (upd H1 D (.lst [])) []) (hD : ∀ i H ys, Pv i H ys → H D = some (.lst ys) ∧ SqT K H a xs)
    (hs : ∀ i x H ys, xs[i]? = some x → Pv i H ys → g x σ0 H fun σ2 H2 => wk σ0 σ2 ∧ tYes σ2 H2 fun b H3 => if b = true then te σ2 H3 (NextC Pv xs.length D i ys) else ∃ m', m' < xs.length - i ∧ (m' = xs.length - (i + 1) ∧ i + 1 ≤ xs.length ∧ Pv (i + 1) H3 ys)) (hd : ∀ H ys, Pv xs.length H ys → QD H) :
    ∃ W : Nat → Nat → Hp → List V → Prop, (∃ m, W 0 m (upd H1 D (.lst [])) []) ∧ ∀ i m H ys, W i m H ys → H D = some (.lst ys) ∧ (((Itt K a).stop i H ∧ QD H) ∨ ((Itt K a).go i H ∧ ∀ x H', (Itt K a).yld i H x H' → g x σ0 H' fun σ2 H2 => wk σ0 σ2 ∧ tYes σ2 H2 fun b H3 =>
      if b = true then te σ2 H3 fun v H4 => H4 D = some (.lst ys) ∧ ys.length < sizeLine ∧ ∃ m', m' < m ∧ W (i + 1) m' (upd H4 D (.lst (ys ++ [v]))) (ys ++ [v]) else ∃ m', m' < m ∧ W (i + 1) m' H3 ys)) := by
  refine ⟨fun i m H ys => m = xs.length - i ∧ i ≤ xs.length ∧ Pv i H ys, ⟨xs.length, by simp, Nat.zero_le _, h0⟩, ?_⟩
  rintro i m H ys ⟨rfl, hi, p⟩
  obtain ⟨d1, d2⟩ := hD i H ys p
  refine ⟨d1, ?_⟩
  by_cases hlt : i < xs.length
  · refine .inr ⟨⟨xs, xs[i], d2, by simp [hlt]⟩, fun x H' y => ?_⟩
    obtain ⟨e, y⟩ := y
    subst e
    exact hs i x _ ys (y xs d2) p
  · have e : i = xs.length := by omega
    subst e
    exact .inl ⟨⟨xs, d2, Nat.le_refl _⟩, hd H ys p⟩
theorem s_tup {σ : St} {H : Hp} {tl : TE} {R : It → Hp → Prop} (q : tl σ H fun x H1 => ∃ a, x = .ref a ∧ (∃ xs, SqT K H1 a xs) ∧ R (Itt K a) H1) : iTup K tl σ H R := q
end
end L2
set_option Elab.async false
set_option linter.all false
set_option maxRecDepth 100000
set_option maxHeartbeats 4000000
namespace L2
open PySem PySem.Spec PyProof.Rows
section
variable {X : Cx}
noncomputable def rIndex : V → List V → Hp → VK → Prop := fun x vs H Q => ∃ (l : Addr) (xs : List Str) (y : Str) (j : Nat), x = .ref l ∧ vs = [.str y] ∧ H l = some (.lst (xs.map V.str)) ∧ xs[j]? = some y ∧ (∀ m, m < j → xs[m]? ≠ some y) ∧ xs.length ≤ 100000 ∧ Q (.int j) H
theorem mt_index : MtR X "list.index" rIndex := by
  intro pins s σ H x vs v us Q I rx rv h
  obtain ⟨l, xs, y, j, rfl, rfl, hH, hj, hno, hz, q⟩ := h
  cases rx
  obtain ⟨u, rfl, t, rfl⟩ := vals1 rv
  obtain ⟨z, its, n, r, hl, e⟩ := I.lstM hH
  have sa := strsAre_of r
  have hlen : its.length = xs.length := by rw [← hl, List.length_map]
  have hjl : j < xs.length := (List.getElem?_eq_some_iff.mp hj).1
  have at' : ∀ m (hm : m < its.toArray.size), isStrOf y its.toArray[m] = (xs[m]'(by rw [List.size_toArray] at hm; omega) == y) := fun m hm => by
    rw [List.size_toArray] at hm
    obtain ⟨u, hu, ru⟩ := r.get (i := m) (show (xs.map V.str)[m]? = some (.str (xs[m]'(by omega))) from by rw [List.getElem?_map, List.getElem?_eq_getElem (by omega)]; rfl)
    obtain ⟨tu, eu⟩ := ru
    subst eu
    have e2 : its.toArray[m] = .str (xs[m]'(by omega)) tu := by
      have := (List.getElem?_eq_some_iff.mp hu).2
      simpa using this
    rw [e2]
    rfl
  refine call_meets F.slot_list_index ⟨_, e, rfl⟩ F.entry_list_index (F.args_list_index_2 _ _) (MeetsSeq.list_index l its.toArray n (.str y t) (isStrOf y) (fun v hv => eq_isStrOf y t sa v (by simpa using hv)) j (by rw [List.size_toArray]; omega) (by omega) ?_ (fun m hm hmj => ?_)) ⟨e, ?_⟩
  · rw [at' j (by rw [List.size_toArray]; omega)]
    have := (List.getElem?_eq_some_iff.mp hj).2
    rw [this]
    simp
  · rw [at' m hm]
    rw [List.size_toArray] at hm
    have h1 := hno m hmj
    rw [List.getElem?_eq_getElem (by omega)] at h1
    simpa using h1
  · exact ⟨.int j, H, I.tok _, ⟨_, rfl⟩, q⟩
end
end L2
set_option Elab.async false
set_option linter.all false
set_option maxRecDepth 100000
set_option maxHeartbeats 4000000
namespace L2
open PySem PySem.Spec PyProof.Rows
section
variable {X : Cx}
theorem op_notB : OpR X (compareOp .IsNot) (fun x y H Q => ∃ b c, x = .bl b ∧ y = .bl c ∧ Q (.bl (b != c)) H) := by
  intro pins s σ H x y v u Q I rx ry h
  obtain ⟨b, c, rfl, rfl, q⟩ := h
  cases rx
  cases ry
  exact isnot_bool (fin_bl I q rfl)
theorem pe_bmK {K : PySem.W.Frag} {o e : Expr} {es : List Expr} {to : TE} {t : TA} {name : Str} {apos cpos : Pos} {T id : String} {r : V → List V → Hp → VK → Prop} (hK : X.K = K) (pa : PlainAttrs T) (slot : Slot T name id) (hty : typeOf (.builtin id) = pure (.type "method_descriptor")) (hm : MtR X id r) (ho : PE X o to) (ha : PA X (e :: es) t)
    (hbase : attributeBase o name X.env (eval o X.env) = eval o X.env := by rfl)
    (hfew : ((backTo cpos (starEach (e :: es) X.env)).all (fun x => !x.1) && (backToKw cpos (keywordEach [] X.env)).all (fun x => x.1.isSome)
      && decide ((e :: es).length + ([] : List Keyword).length + (if ([] : List Keyword).isEmpty then 0 else 1) < 30)) = true := by rfl)
    (hline : (apos.endLine == cpos.line) = true := by rfl) (hs : starEach (e :: es) X.env = (false, eval e X.env) :: starEach es X.env := by rfl) (hplain : (backTo cpos (starEach es X.env)).any (·.1) = false := by rfl) :
    PE X (.Call (.Attribute o name apos) (e :: es) [] cpos) (tBM K T r to t) := by
  subst hK
  exact pe_bm pa slot hty hm ho ha hbase hfew hline hs hplain
end
end L2
set_option Elab.async false
set_option linter.all false
set_option maxRecDepth 100000
set_option maxHeartbeats 4000000
namespace L2
open PySem PySem.Spec PyProof.Rows
section
variable {X : Cx} {scope : Scope} {tgs : List Str} {cap : List (Str × Nat)}
theorem ps_lc {j : Nat} {x : Str} {pos' spos : Pos} {elt tg iter : Expr} {ifs : List Expr} {pos : Pos} {wi : TI} {g : TG} {tt : TT} {te : TE} (hN : X.N.Nodup) (hj : X.N[j]? = some x) (hx : Loc X.env.scope x) (hc : X.calm = true) (B : BlockOk X scope tgs cap) (hi : PI X tg iter wi)
    (hg : ∀ C s H fp, PG (X.block (tgs ++ cap.map (·.1)) scope C s H fp) tg g) (ht : ∀ C s H fp, PIfs (X.block (tgs ++ cap.map (·.1)) scope C s H fp) ifs tt) (he : ∀ C s H fp, PE (X.block (tgs ++ cap.map (·.1)) scope C s H fp) elt te)
    (hs : ∀ x, foldedSetIterable iter X.env x = pure x := by intro _; rfl) (hsw : swapsWith (.ListComp elt [⟨tg, iter, ifs, 0⟩] scope pos) (some (.Name x pos')) spos.line X.env = pure true := by rfl)
    (hf : X.fn x = true ∨ X.env.scope.names.lookup x = some .local := by first | exact .inl rfl | exact .inr rfl | assumption) : PS X (.Assign [.Name x pos'] (.ListComp elt [⟨tg, iter, ifs, 0⟩] scope pos) spos) (tAsg (tComp wi g tt te (blockSt tgs cap)) (gName j)) := by
  intro pins s σ H D I h
  rw [exec_Assign_Name_used _ _ _ _ hsw]
  refine wpAny_bind (wpAny_standAt (wpAny_bind ?_))
  show wpAny _ _ (comprehension _ _ _ _ _ _ _ _ >>= _) _ _ _
  refine wpAny_bind (thn (Q := fun _ s' => SP X pins D .next s') ?_ fun _ s' q => wpAny_pure (wpAny_pure q))
  refine wpAny_comprehension_free (use := some (assign (.Name x pos') X.env)) rfl hs (closure_eq (B.cellAt I.ok)) B.kind B.locs (thn (hi pins s σ H _ I h) fun v s1 h1 => thn h1 fun itv s2 h2 => ?_)
  obtain ⟨it, fp, tn, J, H2, e, I2, T, st2, f2, q⟩ := h2
  subst e
  have lt2 : ∀ b ∈ fp, b < s2.heap.objs.size := fun b hb => let ⟨o, e, _⟩ := T.obj _ _ st2 b hb; Heap.lt_size e
  have hD : H2 s2.heap.objs.size = none := I2.hok.fresh (Nat.le_refl _)
  obtain ⟨W, ⟨m0, w0⟩, turn⟩ := q s2.heap.objs.size hD
  refine wpAny_newObj_type ?_
  have I3 : Inv X pins σ (upd H2 s2.heap.objs.size (.lst [])) { s2 with heap := s2.heap.push { cls := .type "list", dict := none, data := .seq ([] : List Value).toArray } } := I2.lnew (t' := s2.toks) (ys := []) (its := []) .nil (Nat.zero_le _)
  have st3 : tn 0 (s2.heap.push { cls := .type "list", dict := none, data := .seq ([] : List Value).toArray }) := T.keep _ _ _ st2 fun b _ o e => Heap.get?_push_of_some _ e
  have nD : ∀ b ∈ fp, b ≠ s2.heap.objs.size := fun b hb => Nat.ne_of_lt (lt2 b hb)
  have f3 : ∀ b ∈ fp, FpOk X pins (upd H2 s2.heap.objs.size (.lst [])) b := fun b hb => ⟨by rw [upd_ne (nD b hb)]; exact (f2 b hb).1, (f2 b hb).2⟩
  generalize hs3 : ({ s2 with heap := s2.heap.push { cls := .type "list", dict := none, data := .seq ([] : List Value).toArray } } : Shared) = s3 at I3 st3 ⊢
  have st3' : tn 0 s3.heap := by rw [← hs3]; exact st3
  have lt3 : ∀ b ∈ fp, b < s3.heap.objs.size := fun b hb => let ⟨o, e, _⟩ := T.obj _ _ st3' b hb; Heap.lt_size e
  generalize hH3 : upd H2 s2.heap.objs.size (.lst []) = H3 at I3 f3 w0
  generalize s2.heap.objs.size = DD at *
  refine wpAny_newFunctionEnv B.noc (by intro y hy; simp at hy) (fun h1 hns hsb => ?_) B.kind
  have old : ∀ b o, s3.heap.get? b = some o → h1.get? b = some o := fun b o e => hsb.extBut b o (Nat.ne_of_lt (Heap.lt_size e)) (Heap.get?_push_of_some _ e)
  have I4 := Inv.enter (tk := s3.toks + ([] : List (Str × Value)).length) (h1 := h1) B I3 f3 lt3 hns old
  have st4 : tn 0 h1 := T.keep _ _ _ st3' fun b _ o e => old b o e
  have fpB : ∀ {H' : Hp}, (∀ b ∈ fp, H' b = none) → ∀ b ∈ fp, FpOk (X.block (tgs ++ cap.map (·.1)) scope s3.heap.objs.size s3 H3 fp) [] H' b := fun {H'} hn b hb =>
    ⟨hn b hb, Nat.ne_of_lt (lt3 b hb), I4.ok.exfs b hb, .inl hb, fun x c e => (I4.ok.exf b hb).2 x c e, fun p hp => absurd (show p ∈ ([] : List (Addr × Obj)) from hp) (by simp)⟩
  have loop : codeAny (model X.prog X.w) X.A (.compLoop (.ListComp elt [⟨tg, iter, ifs, 0⟩] scope pos) 0 (.ref it) (.ref DD) (compEnvC scope (clsOf X.env scope.names []) s3.heap.objs.size X.env))
      (compPost (model X.prog X.w) X.A X.xe (some (assign (.Name x pos') X.env)) (fun _ s' => SP X pins D .next s') (.ref DD) s3.heap.objs.size) { s3 with heap := h1, toks := s3.toks + ([] : List (Str × Value)).length } := by
    refine compLoop_any (fun n s' => ∃ i H' ys, Inv (X.block (tgs ++ cap.map (·.1)) scope s3.heap.objs.size s3 H3 fp) [] (blockSt tgs cap σ) H' s' ∧ tn i s'.heap ∧ (∀ b ∈ fp, H' b = none) ∧ W i n H' ys) ?_ m0 ⟨0, H3, [], I4, st4, fun b hb => (f3 b hb).1, w0⟩
    rintro n s5 ⟨i, H5, ys, I5, st5, fr5, w5⟩
    obtain ⟨hl, ht5⟩ := turn i n H5 ys w5
    rcases ht5 with ⟨stop, qd⟩ | ⟨go, step⟩
    · refine thn (T.done (X.block (tgs ++ cap.map (·.1)) scope s3.heap.objs.size s3 H3 fp) rfl rfl rfl hc i [] s5 _ H5 _ I5 (fpB fr5) st5 stop) fun r s6 ⟨hr, I6⟩ => ?_
      subst hr
      obtain ⟨m6, n6, _⟩ := I6.loc
      have IO : Inv X pins σ H5 s6 := Inv.leave (h2 := s6.heap) I3 f3 I6 ⟨rfl, fun _ _ => rfl⟩
      have fC : FpOk X pins H5 s3.heap.objs.size := ⟨I6.free, (I3.fpOk (Nat.le_refl _) (I3.hok.fresh (Nat.le_refl _))).2⟩
      obtain ⟨f0, f1, f2', f3', f4, f5⟩ := fC
      refine wpAny_assign_Name (store_ok2 IO hN hj hx (show RelV (.ref DD) (.ref DD) from rfl) (fun s7 I7 ⟨a, sb, ha⟩ => ?_) hf)
      have na : s3.heap.objs.size ≠ a := by
        rcases ha with z | z
        · rw [z]; exact f1
        · exact fun y => f4 x a z y.symm
      obtain ⟨o6, es6, ep6, ho6, r6⟩ := n6
      refine ⟨m6, ⟨o6, es6, ep6, (sb.2 _ na).trans ho6, r6⟩, fun h' hs' => ⟨_, H5, I7.turned (t' := s7.toks) (fun b o hb q => (hs'.2 b hb).trans q) f0 f1 f3' f4 f5, qd⟩⟩
    · refine thn (T.item (X.block (tgs ++ cap.map (·.1)) scope s3.heap.objs.size s3 H3 fp) rfl rfl rfl hc i [] s5 _ H5 _ I5 (fpB fr5) st5 go) fun r s6 ⟨u, hr, h6⟩ => ?_
      subst hr
      refine thn h6 fun _ s7 ⟨x, H7, I7, r7, y7, st7, fr7⟩ => ?_
      have I7' := I7.pinned (fpB fr7) (T.obj _ _ st7)
      have again : ∀ {σ8 : St} {H8 : Hp} {s8 : Shared} {ys8 : List V}, Inv (X.block (tgs ++ cap.map (·.1)) scope s3.heap.objs.size s3 H3 fp) ([] ++ pinsAt fp s7.heap) σ8 H8 s8 → wk (blockSt tgs cap σ) σ8 → (∃ m', m' < n ∧ W (i + 1) m' H8 ys8) →
          ∃ m, m < n ∧ ∃ i H' ys, Inv (X.block (tgs ++ cap.map (·.1)) scope s3.heap.objs.size s3 H3 fp) [] (blockSt tgs cap σ) H' s8 ∧ tn i s8.heap ∧ (∀ b ∈ fp, H' b = none) ∧ W i m H' ys := fun {σ8 H8 s8 ys8} I8 k8 ⟨m', hm, w8⟩ => by
        refine ⟨m', hm, i + 1, H8, ys8, I8.unpinned.weak (wk_len k8) (wk_get k8), T.keep _ _ _ st7 fun b hb o e => (I8.pin (b, o) (List.mem_append_right _ (List.mem_append_right _ (mem_pinsAt hb e)))).1, fun b hb => ?_, w8⟩
        obtain ⟨o, e, d⟩ := T.obj _ _ st7 b hb
        exact (I8.pin (b, o) (List.mem_append_right _ (List.mem_append_right _ (mem_pinsAt hb e)))).2.1
      refine thn (hg _ _ _ _ _ s7 _ H7 x u _ I7' r7 (step x H7 y7)) fun _ s8 ⟨σ8, H8, I8, k8, q8⟩ => ?_
      refine thn (ht _ _ _ _ _ s8 σ8 H8 _ I8 q8) fun ok s9 ⟨H9, I9, q9⟩ => ?_
      cases ok with
      | false =>
        rw [if_neg Bool.false_ne_true] at q9 ⊢
        exact again I9 k8 q9
      | true =>
        rw [if_pos rfl] at q9 ⊢
        refine thn (he _ _ _ _ _ s9 σ8 H9 _ I9 q9) fun y sA ⟨yv, HA, IA, rA, hA, zA, qA⟩ => ?_
        exact thn (mt_append _ sA σ8 HA (.ref DD) [yv] (.ref DD) [y] (fun v H' => v = .non ∧ ∃ m', m' < n ∧ W (i + 1) m' H' (ys ++ [yv])) IA rfl (.cons rA .nil) ⟨DD, ys, yv, rfl, rfl, hA, zA, rfl, qA⟩) fun _ sB ⟨_, HB, IB, _, _, qB⟩ => again IB k8 qB
  exact codeAny_compStart_list loop (T.self _ 0 _ _ _ st4 loop)
end
end L2
set_option Elab.async false
set_option linter.all false
set_option maxRecDepth 100000
set_option maxHeartbeats 1000000
namespace L2
open PySem PySem.Spec PyProof.Rows PySem.Calls
theorem len_6 {A : Type} : ∀ {us : List A}, us.length = 6 → ∃ a0 a1 a2 a3 a4 a5, us = [a0, a1, a2, a3, a4, a5]
  | [], h => nomatch h
  | a0 :: us, h => by
    have h : us.length + 1 = 6 := h
    cases us with
    | nil => cases h
    | cons a1 us =>
      cases us with
      | nil => cases h
      | cons a2 us =>
        cases us with
        | nil => cases h
        | cons a3 us =>
          cases us with
          | nil => cases h
          | cons a4 us =>
            cases us with
            | nil => cases h
            | cons a5 us =>
              cases us with
              | nil => exact ⟨_, _, _, _, _, _, rfl⟩
              | cons a6 us => cases h
end L2
set_option Elab.async false
set_option linter.all false
set_option maxRecDepth 100000
set_option maxHeartbeats 4000000
namespace L2
open PySem PySem.Spec PyProof.Rows
theorem Inv.turnedL {X : Cx} {pins : List (Addr × Obj)} {σ : St} {H : Hp} {s : Shared} {h' : Heap} {t' : Nat} {T : Addr} {o : HO} {ch : List Addr} (I : Inv X pins σ H s) (k : ∀ b o, b ∉ ch → s.heap.get? b = some o → h'.get? b = some o)
    (f : ∀ b ∈ ch, FpOk X pins H b) (hT : s.heap.objs.size ≤ T) (new : ObjOk X.prog X.w (upd H T o) h' T o) : Inv X pins σ (upd H T o) { s with heap := h', toks := t' } := by
  have hn : H T = none := I.hok.fresh hT
  have nT : ∀ b u, s.heap.get? b = some u → b ≠ T := fun b u q => Nat.ne_of_lt (Nat.lt_of_lt_of_le (Heap.lt_size q) hT)
  have n : ∀ b u, H b = some u → b ∉ ch := fun b u q z => by rw [(f b z).1] at q; cases q
  refine I.step (g' := s.gens) (d' := s.drawn) (ch := ch) (fun b hb => ?_) (fun b u _ _ hc q _ => k b u hc q) (fun b u _ _ hc q _ => ⟨u.slots, k b u hc q⟩) (fun b u _ q n => by rw [upd_ne (nT b u q)]; exact n)
    (fun b u hc q => ⟨u, k b u hc q⟩) (fun b xs q => by rw [upd_ne (ne_of_none q hn)]; exact q) (fun b u xs q => by rw [upd_ne (ne_of_none q hn)]; exact q) (fun b ps q => ⟨#[], by rw [upd_ne (ne_of_none q hn), q]; simp⟩) (fun m hm => ?_) (fun b u q => ?_) I.bare
  · obtain ⟨_, a2, _, a4, a5, a6⟩ := f b hb
    exact ⟨a4, a2, a5, a6⟩
  · obtain ⟨ob, es, ep, ho, r⟩ := hm
    exact ⟨ob, es, ep, k _ ob (fun z => (f _ z).2.1 rfl) ho, r⟩
  · by_cases hb : b = T
    · subst hb
      rw [upd_same] at q
      cases q
      exact new
    · rw [upd_ne hb] at q
      refine (I.hok b u q).stay (fun c v hc z => k c v ?_ z) (fun c z => by rw [upd_ne (ne_of_none z hn)]; exact z) fun c xs z => by rw [upd_ne (ne_of_none z hn)]; exact z
      rcases hc with z | z
      · rw [z]; exact n b u q
      · exact n c _ z
theorem Inv.turnedE {X : Cx} {pins : List (Addr × Obj)} {σ : St} {H : Hp} {s : Shared} {h' : Heap} {t' : Nat} {ch : List Addr} (I : Inv X pins σ H s) (k : ∀ b o, b ∉ ch → s.heap.get? b = some o → h'.get? b = some o)
    (f : ∀ b ∈ ch, FpOk X pins H b) : Inv X pins σ H { s with heap := h', toks := t' } := by
  have n : ∀ b u, H b = some u → b ∉ ch := fun b u q z => by rw [(f b z).1] at q; cases q
  refine I.step (g' := s.gens) (d' := s.drawn) (ch := ch) (fun b hb => ?_) (fun b u _ _ hc q _ => k b u hc q) (fun b u _ _ hc q _ => ⟨u.slots, k b u hc q⟩) (fun b u _ q n => n)
    (fun b u hc q => ⟨u, k b u hc q⟩) (fun b xs q => q) (fun b u xs q => q) (fun b ps q => ⟨#[], by rw [q]; simp⟩) (fun m hm => ?_) (fun b u q => ?_) I.bare
  · obtain ⟨_, a2, _, a4, a5, a6⟩ := f b hb
    exact ⟨a4, a2, a5, a6⟩
  · obtain ⟨ob, es, ep, ho, r⟩ := hm
    exact ⟨ob, es, ep, k _ ob (fun z => (f _ z).2.1 rfl) ho, r⟩
  · refine (I.hok b u q).stay (fun c v hc z => k c v ?_ z) (fun c z => z) fun c xs z => z
    rcases hc with z | z
    · rw [z]; exact n b u q
    · exact n c _ z
noncomputable def Itz (K : PySem.W.Frag) (a : Addr) (z : Str) : It :=
  ⟨fun i H => (∃ xs x, SqL K H a xs ∧ xs[i]? = some x) ∧ i < z.cps.size, fun i H x H' => ∃ T v, H T = none ∧ x = .ref T ∧ H' = upd H T (.tup [v, signV z i]) ∧ ∀ xs, SqL K H a xs → xs[i]? = some v, fun i H => ∃ xs, SqL K H a xs ∧ xs.length ≤ i⟩
theorem turn_zip {P : Program} {w : World} {K : PySem.W.Frag} {elts : List Expr} {k : Nat} {pos : Pos} (a z TI TO i1 i2 : Addr) (x : Str) (t : Tok) (D : LZ.Apart5 z TI TO i1 i2 a) :
    Turn P w K (.Tuple elts k pos) (Itz K a x) [z, TI, TO, i1, i2] z (fun i h => LZ.IsZ h z TI TO .none false ∧ IsPair h TI (.ref i1) (.ref i2) ∧ (∃ u v, IsPair h TO u v) ∧ h.IsListIter i1 a i ∧ h.IsStrIter i2 (LZ.tyOf x) x t i) where
  mem := by simp
  obj := fun i h st b hb => by
    obtain ⟨hz, hTI, ⟨u, v, hTO⟩, ⟨o1, g1, _, d1⟩, ⟨o2, g2, _, d2⟩⟩ := st
    simp only [List.mem_cons, List.not_mem_nil, or_false] at hb
    rcases hb with rfl | rfl | rfl | rfl | rfl
    · exact ⟨_, hz, fun v q => by have q' : Data.fields _ = Data.cell v := q; cases q'⟩
    · exact ⟨_, hTI, fun v q => by have q' : Data.seq _ _ = Data.cell v := q; cases q'⟩
    · exact ⟨_, hTO, fun v q => by have q' : Data.seq _ _ = Data.cell v := q; cases q'⟩
    · exact ⟨o1, g1, fun v q => by rw [d1] at q; cases q⟩
    · exact ⟨o2, g2, fun v q => by rw [d2] at q; cases q⟩
  keep := fun i h h' st kk => by
    obtain ⟨hz, hTI, ⟨u, v, hTO⟩, ⟨o1, g1, r1⟩, ⟨o2, g2, r2⟩⟩ := st
    exact ⟨kk z (by simp) _ hz, kk TI (by simp) _ hTI, ⟨u, v, kk TO (by simp) _ hTO⟩, ⟨o1, kk i1 (by simp) _ g1, r1⟩, ⟨o2, kk i2 (by simp) _ g2, r2⟩⟩
  item := by
    intro X hP hw hK hc i pins s σ H E I hf st hg
    subst hP hw hK
    obtain ⟨⟨xs, y, hq, hx⟩, hi⟩ := hg
    obtain ⟨its, rv, p, hsz⟩ := I.list hq
    obtain ⟨u, hu, ru⟩ := rv.get hx
    obtain ⟨hz, hTI, ⟨a0, b0, hTO⟩, h1, h2⟩ := st
    have hcx : x.cps[i]? = some (x.cps.getD i 0) := by simp [Array.getD, hi]
    refine LZ.next_first (LZ.tyOf_is x) D hz hTI hTO h1 h2 p.isList (v := u) (by simpa using hu) hcx fun h' b1 b2 b3 b4 b5 b6 b7 => ⟨_, rfl, ?_⟩
    refine wpAny_letOwnedTupleGo_zip (T := s.heap.objs.size) b1 fun h2' c1 c2 => ?_
    have szT : ∀ c ∈ [z, TI, TO, i1, i2], c ≠ s.heap.objs.size := fun c hc => by
      have : ∃ o, s.heap.get? c = some o := by
        simp only [List.mem_cons, List.not_mem_nil, or_false] at hc
        obtain ⟨o1, g1, _⟩ := h1
        obtain ⟨o2, g2, _⟩ := h2
        rcases hc with rfl | rfl | rfl | rfl | rfl
        · exact ⟨_, hz⟩
        · exact ⟨_, hTI⟩
        · exact ⟨_, hTO⟩
        · exact ⟨_, g1⟩
        · exact ⟨_, g2⟩
      obtain ⟨o, e⟩ := this
      exact Nat.ne_of_lt (Heap.lt_size e)
    have zT : z ≠ s.heap.objs.size := szT z (by simp)
    have keep2 : ∀ b o, b ∉ [z, TI, TO, i1, i2] → s.heap.get? b = some o → h2'.get? b = some o := fun b o nb q => by
      simp only [List.mem_cons, List.not_mem_nil, or_false, not_or] at nb
      exact c2.extBut b o nb.1 (b7 b o nb.1 nb.2.2.1 nb.2.2.2.1 nb.2.2.2.2 q)
    have kp : ∀ {b o}, b ≠ z → h'.get? b = some o → h2'.get? b = some o := fun nb q => c2.extBut _ _ nb q
    have tup2 : h2'.get? s.heap.objs.size = some _ := kp (Ne.symm zT) b5
    have I2 : Inv X pins σ (upd H s.heap.objs.size (.tup [y, signV x i])) { s with heap := h2', toks := s.toks + 1 } :=
      I.turnedL (ch := [z, TI, TO, i1, i2]) keep2 hf (Nat.le_refl _) ⟨(by show 2 ≤ sizeLine; decide), [u, .str ⟨#[x.cps.getD i 0]⟩ s.toks], .cons ru (.cons ⟨_, rfl⟩ .nil), ⟨_, tup2, rfl, _, rfl⟩⟩
    obtain ⟨a1, b1', b2'⟩ := b2
    refine ⟨.ref s.heap.objs.size, _, I2, rfl, ⟨s.heap.objs.size, y, I.hok.fresh (Nat.le_refl _), rfl, rfl, fun ys hy => by rw [I.list_inj hy hq]; exact hx⟩, ⟨c1, ?_, ⟨a1, b1', ?_⟩, ?_, ?_⟩, fun b hb => ?_⟩
    · exact kp D.TIz (b7 TI _ D.TIz D.TITO D.TIi1 D.TIi2 hTI)
    · exact kp D.TOz b2'
    · obtain ⟨o1, g1, r1⟩ := b3
      exact ⟨o1, kp D.i1z g1, r1⟩
    · obtain ⟨o2, g2, r2⟩ := b4
      exact ⟨o2, kp D.i2z g2, r2⟩
    · rw [upd_ne (szT b hb)]
      exact (hf b hb).1
  done := by
    intro X hP hw hK hc i pins s σ H E I hf st hg
    subst hP hw hK
    obtain ⟨xs, hq, hx⟩ := hg
    obtain ⟨its, rv, p, hsz⟩ := I.list hq
    obtain ⟨hz, hTI, hTO, h1, h2⟩ := st
    have hlen := rv.length
    refine LZ.next_end (a := .none) (b := .none) (I.ok.hd hc) D hz (.inl ⟨rfl, rfl, hTO⟩) hTI h1 p.isList (by simp; omega) fun h' eb => ⟨rfl, ?_⟩
    exact I.turnedE (t' := s.toks) (ch := [z, TI, TO, i1, i2]) (fun b o nb q => by
      simp only [List.mem_cons, List.not_mem_nil, or_false, not_or] at nb
      exact eb b o nb.1 nb.2.2.2.1 q) hf
  self := fun _ _ _ _ _ st h => wpAny_pyIter_zip st.1 h
section
variable {X : Cx} {elts : List Expr} {k : Nat} {tpos : Pos}
noncomputable def iZip (K : PySem.W.Frag) (ta : TA) : TI := fun σ H R => ta σ H fun vs H1 => ∃ a z, vs = [.ref a, .str z] ∧ (∃ xs, SqL K H1 a xs) ∧ R (Itz K a z) H1
theorem pi_zip {a b : Expr} {ta : TA} {p pos : Pos} (hg : Gl X "zip") (hm : X.mg "zip" = none) (ha : PA X [a, b] ta) (hs : starEach [a, b] X.env = [(false, eval a X.env), (false, eval b X.env)] := by rfl) (hs2 : starEach [b] X.env = [(false, eval b X.env)] := by rfl) : PI X (.Tuple elts k tpos) (.Call (.Name "zip" p) [a, b] [] pos) (iZip X.K ta) := by
  intro pins s σ H R I h
  refine Call_ (ld_blt I hg hm boot_zip (PyProof.Rows.callWith_type1 (thn (ha pos pins s σ H _ I h) fun us s1 ⟨vs, H1, I1, r1, q1⟩ => ?_) (by rw [hs, hs2]) (by rw [hs2]; rfl)))
  obtain ⟨l, z, e, ⟨xs, hq⟩, q⟩ := q1
  subst e
  obtain ⟨u1, u2, eu, r3, r2⟩ := vals2 r1
  subst eu
  cases (show u1 = Value.ref l from r3)
  obtain ⟨t, rfl⟩ := r2
  obtain ⟨its, rv, pl, hz⟩ := I1.list hq
  refine LZ.call_zip pl.isList fun h' b1 b2 b3 b4 b5 b6 b7 => ?_
  refine wpAny_pyIter_zip b1 ?_
  have I2 : Inv X pins σ H1 { s1 with heap := h' } := I1.kept (t' := s1.toks) b7
  obtain ⟨ol, gl, _⟩ := pl.isList
  have ll : @LT.lt Nat _ l s1.heap.objs.size := Heap.lt_size gl
  refine ⟨s1.heap.objs.size + 4, [s1.heap.objs.size + 4, s1.heap.objs.size + 2, s1.heap.objs.size + 3, s1.heap.objs.size, s1.heap.objs.size + 1], _, _, H1, rfl, I2, turn_zip l (s1.heap.objs.size + 4) (s1.heap.objs.size + 2) (s1.heap.objs.size + 3) s1.heap.objs.size (s1.heap.objs.size + 1) z t ?_, ⟨b1, b2, ⟨_, _, b3⟩, b4, b5⟩, fun b hb => ?_, q⟩
  · constructor <;> (show @Ne Nat _ _; omega)
  · have hle : s1.heap.objs.size ≤ b := by
      simp only [List.mem_cons, List.not_mem_nil, or_false] at hb
      rcases hb with rfl | rfl | rfl | rfl | rfl
      · exact Nat.le_add_right _ _
      · exact Nat.le_add_right _ _
      · exact Nat.le_add_right _ _
      · exact Nat.le_refl _
      · exact Nat.le_add_right _ _
    exact I1.fpOk hle (I1.hok.fresh hle)
end
theorem for_zip {K : PySem.W.Frag} {a : Addr} {z : Str} {xs : List V} {g : TG} {tb : TS} {D : Ends} {σ : St} {H : Hp} (hz : xs.length ≤ z.cps.size) (Pv : Nat → St → Hp → Prop) (h0 : Pv 0 σ H) (hl : ∀ i σ H, i ≤ xs.length → Pv i σ H → SqL K H a xs)
    (hs : ∀ i x σ H T, xs[i]? = some x → Pv i σ H → H T = none → g (.ref T) σ (upd H T (.tup [x, signV z i])) fun σ2 H2 => tb { D with nx := Pv (i + 1), ct := Pv (i + 1), bk := D.nx } σ2 H2) (hd : ∀ σ H, Pv xs.length σ H → D.nx σ H) :
    ∃ W : Nat → Nat → St → Hp → Prop, (∃ m, W 0 m σ H) ∧ ∀ i m σ H, W i m σ H →
      ((Itz K a z).stop i H ∧ D.nx σ H) ∨ ((Itz K a z).go i H ∧ ∃ N : St → Hp → Prop, (∀ σ' H', N σ' H' → ∃ m', m' < m ∧ W (i + 1) m' σ' H') ∧ ∀ x H', (Itz K a z).yld i H x H' → g x σ H' fun σ2 H2 => tb { D with nx := N, ct := N, bk := D.nx } σ2 H2) := by
  refine ⟨fun i m σ H => m = xs.length - i ∧ i ≤ xs.length ∧ Pv i σ H, ⟨xs.length, by simp, Nat.zero_le _, h0⟩, ?_⟩
  rintro i m σ H ⟨rfl, hi, p⟩
  have q := hl i σ H hi p
  by_cases hlt : i < xs.length
  · refine .inr ⟨⟨⟨xs, xs[i], q, by simp [hlt]⟩, by omega⟩, Pv (i + 1), fun σ' H' p' => ⟨xs.length - (i + 1), by omega, rfl, hlt, p'⟩, fun x H' y => ?_⟩
    obtain ⟨T, v, hT, ex, eH, y⟩ := y
    subst ex eH
    exact hs i v σ H T (y xs q) p hT
  · have e : i = xs.length := by omega
    subst e
    exact .inl ⟨⟨xs, q, Nat.le_refl _⟩, hd σ H p⟩
section
variable {X : Cx}
end
end L2
set_option Elab.async false
set_option linter.all false
set_option maxRecDepth 100000
set_option maxHeartbeats 4000000
namespace L2
open PySem PySem.Spec PyProof.Rows
open AutoSeq1 (wpAny_loadPart')
section
variable {P : Program} {w : World} {A : Around} {E : Value → Shared → Prop} {s : Shared}
theorem enumS_new (l : Addr) (c : Int) (tc : Tok) (hc : Builtin.SmallTypes.fitsIndex c = true) (its : Array Value) (m : Nat) (dd : Option Addr) (ss : Array (Option Value)) :
    Meets (Builtin.«enumerate.__new__» ⟨[.type "enumerate", .ref l], [("start", .int c tc)]⟩) (fun _ R t => t.heap.get? l = some { cls := .type "list", dict := dd, data := .seq its m, slots := ss } ∧
      R (.ok (.ret (.ref (t.heap.push { cls := .type "list_iterator", data := .fields #[.ref l, .int 0 0] }).objs.size)))
        { t with heap := (t.heap.push { cls := .type "list_iterator", data := .fields #[.ref l, .int 0 0] }).push { cls := .type "enumerate", data := .fields #[.none, .bool false, .ref t.heap.objs.size, rawInt c, .none, .none] } }) := by
  refine .of_wp fun P w A R t ht => ?_
  obtain ⟨hp, g, d, tk, os⟩ := t
  obtain ⟨hl, h⟩ := ht
  have sub := sub_enumerate
  have hL : Heap.IsList (Shared.heap ⟨hp, g, d, tk, os⟩) l its := ⟨_, hl, rfl, m, rfl⟩
  wp_walk using wpAny_loadPart' hl
  refine wpAny_stack_any fun st => wpAny_pure ?_
  have nf : (!Builtin.SmallTypes.fitsIndex c) = false := by rw [hc]; rfl
  split
  rotate_left
  · (wp_walk using wpAny_loadPart' hl, wpAny_pyIter_list hL); exact ⟨_, rfl, h⟩
  · rename_i k _ _ _ _ _
    cases (k == Value.type "enumerate") <;> ((wp_walk using wpAny_loadPart' hl, wpAny_pyIter_list hL); exact ⟨_, rfl, h⟩)
theorem typeCallS (a b : Value) : checkTypeCall "enumerate" ⟨[a], [("start", b)]⟩ = pure () := by kernel_rfl
theorem newCallS (a b : Value) : checkBuiltinCall "enumerate.__new__" ⟨[.type "enumerate", a], [("start", b)]⟩ = pure () := by kernel_rfl
theorem argsS (a b c : Value) : argsOk "object.__init__" ⟨[a, b], [("start", c)]⟩ := by
  show Bind.checkArgs _ _ _ = _
  kernel_rfl
theorem objInitS {T nid : String} {o a b : Value} (hl : typeLookup (.type T) "__init__" = pure (some (.builtin "object.__init__"))) (hm : Bind.madeBy (.type T) = pure (some nid)) (ne : (some nid != some "object.__new__") = true) :
    Meets (Builtin.«object.__init__» ⟨[o, a], [("start", b)]⟩) (fun _ R t => t.TypeIs o T ∧ R (.ok (.ret .none)) t) := by
  refine .of_wp fun P w A R t ⟨hT, hq⟩ => ?_
  repeat (any_goals (first | assumption | wp_step))
  exact ⟨_, rfl, hq⟩
end
end L2
set_option Elab.async false
set_option linter.all false
set_option maxRecDepth 100000
set_option maxHeartbeats 4000000
namespace L2
open PySem PySem.Spec PyProof.Rows
section
variable {P : Program} {w : World} {A : Around} {E : Value → Shared → Prop} {s : Shared}
theorem call_enumS {l : Addr} {c : Int} {tc : Tok} {its : Array Value} {Q : Value → Shared → Prop} (hc : Builtin.SmallTypes.fitsIndex c = true) (hL : s.heap.IsList l its)
    (h : ∀ h', IsEnum h' (s.heap.objs.size + 1) s.heap.objs.size c .none → h'.IsListIter s.heap.objs.size l 0 → (∀ b o, s.heap.get? b = some o → h'.get? b = some o) → Q (.ref (s.heap.objs.size + 1)) { s with heap := h' }) :
    wpAny (model P w) A (call (.type "enumerate") [.ref l] [("start", .int c tc)]) Q E s := by
  obtain ⟨⟨k, dd, dt, ss⟩, hl, hk, m, hd⟩ := hL
  have hk : k = .type "list" := hk
  have hd : dt = .seq its m := hd
  subst hk hd
  have ft := F.called_enumerate
  obtain ⟨c0, tl, hmro⟩ := ft.mro
  have hmade := ft.made
  have hsub := ft.sub
  have h1 := ft.notType
  have h2 := ft.canCreate
  have hct := typeCallS (.ref l) (.int c tc)
  refine wpAny_call (codeAny_of_tree ?_)
  show wpAny _ _ (callAny (.type "enumerate") _) _ _ _
  refine wpAny_pure ⟨Code.quiet_builtin _ (by decide +kernel), codeAny_builtin F.entry_type_call ?_⟩
  rw [Around.under_plain (weight_type_call_type "enumerate" [.ref l] [("start", .int c tc)]) (units_type_call_type "enumerate" [.ref l] [("start", .int c tc)])]
  repeat (any_goals (first | assumption | wp_step))
  have hcn := newCallS (.ref l) (.int c tc)
  refine codeAny_mono (codeAny_call_builtin ft.plain F.entry_enumerate_new (wpAny_of_eq hcn ((enumS_new l c tc hc its m dd ss) P w A.in1 (wants (fun obj s₁ => s₁.TypeIs obj "enumerate" ∧ Q obj s₁) E) s ⟨hl, ?_⟩))) fun r s₁ hr => ?_
  · have hz : (s.heap.push { cls := .type "list_iterator", data := .fields #[.ref l, .int 0 0] }).objs.size = s.heap.objs.size + 1 := Heap.size_push ..
    show _ ∧ _
    rw [hz]
    have he := Heap.get?_push_size (s.heap.push { cls := .type "list_iterator", data := .fields #[.ref l, .int 0 0] }) (o := { cls := .type "enumerate", data := .fields #[.none, .bool false, .ref s.heap.objs.size, rawInt c, .none, .none] }) rfl
    rw [hz] at he
    exact ⟨⟨_, he, rfl⟩, h _ he ⟨_, Heap.get?_push_of_some _ (Heap.get?_push_size _ rfl), rfl, rfl⟩ fun b o x => Heap.get?_push_of_some _ (Heap.get?_push_of_some _ x)⟩
  · cases r with
    | error e => exact hr
    | ok fl =>
      cases fl with
      | ret obj =>
        obtain ⟨hT, hq⟩ := hr
        have hli := ft.init.lookup
        have hbi := ft.init.bind obj
        repeat (any_goals (first | assumption | wp_step))
        refine codeAny_mono (codeAny_call_builtin ft.init.plain F.entry_object_init (ft.init.check _ _ _ _ _ _ _ _ hT (argsS obj _ _) ((objInitS ft.init.lookup ft.made (by decide)) P w A.in1 (wants (fun r s₂ => r = .none ∧ Q obj s₂) E) s₁ ⟨hT, rfl, hq⟩))) fun r₂ s₂ hr₂ => ?_
        cases r₂ with
        | error e => exact hr₂
        | ok fl₂ =>
          cases fl₂ with
          | ret r => obtain ⟨rfl, hq⟩ := hr₂; repeat (any_goals (first | assumption | wp_step))
          | _ => exact hr₂.elim
      | _ => exact hr.elim
end
end L2
set_option Elab.async false
set_option linter.all false
set_option maxRecDepth 100000
set_option maxHeartbeats 4000000
namespace L2
open PySem PySem.Spec PyProof.Rows
section
variable {P : Program} {w : World} {A : Around} {E : Value → Shared → Prop} {s : Shared}
theorem enumC_next {e it l : Addr} {i : Nat} {c : Int} {its : Array Value} {x old : Value} {Q : Value → Shared → Prop} (he : IsEnum s.heap e it c old) (hit : s.heap.IsListIter it l i) (hl : s.heap.IsList l its) (hx : its[i]? = some x) (hne : e ≠ it)
    (hQ : ∀ h', IsEnumOut h' e it (c + 1) x s.heap.objs.size → h'.IsListIter it l (i + 1) → h'.get? s.heap.objs.size = some { cls := .type "tuple", data := .seq #[.int c s.toks, x] } →
      (∀ b o, b ≠ e → b ≠ it → s.heap.get? b = some o → h'.get? b = some o) → Q (.ref s.heap.objs.size) { s with heap := h', toks := s.toks + 1 }) :
    wpAny (model P w) A (Builtin.«enumerate.__next__» ⟨[.ref e], []⟩) (fun fin s' => ∃ v, fin = .done (.ret v) ∧ Q v s') E s := by
  obtain ⟨hp, g, d, tk, os⟩ := s
  show wpAny _ _ (field (.ref e) 2 >>= _) _ _ _
  refine wpAny_bind (wpAny_field he rfl (x := .ref it) rfl (wpAny_bind (wpAny_nextOf_list_item hit hl hx fun k1 i1 s1 => ?_)))
  have s1 : Heap.SameBut it hp k1 := s1
  have e1 : IsEnum k1 e it c old := (s1.2 e hne).trans he
  show wpAny _ _ (field (.ref e) 3 >>= _) _ _ ⟨k1, g, d, tk, os⟩
  refine wpAny_bind (wpAny_field e1 rfl (x := rawInt c) rfl ?_)
  show wpAny _ _ (field (.ref e) 4 >>= _) _ _ ⟨k1, g, d, tk, os⟩
  refine wpAny_bind (wpAny_field e1 rfl (x := .none) rfl ?_)
  show wpAny _ _ (mkInt c >>= _) _ _ ⟨k1, g, d, tk, os⟩
  refine wpAny_bind (wpAny_mkInt ?_)
  show wpAny _ _ (setField (.ref e) 3 (rawInt (c + 1)) >>= _) _ _ ⟨k1, g, d, tk + 1, os⟩
  refine wpAny_bind (wpAny_setField_rec e1 (by simp) fun k2 e2 s2 => ?_)
  have s2 : Heap.SameBut e k1 k2 := s2
  have e2 : IsEnum k2 e it (c + 1) old := e2
  show wpAny _ _ (setField (.ref e) 4 .none >>= _) _ _ ⟨k2, g, d, tk + 1, os⟩
  refine wpAny_bind (wpAny_setField_rec e2 (by simp) fun k3 e3 s3 => ?_)
  have s3 : Heap.SameBut e k2 k3 := s3
  have e3 : IsEnum k3 e it (c + 1) old := e3
  show wpAny _ _ (newTuple [.int c tk, x] >>= _) _ _ ⟨k3, g, d, tk + 1, os⟩
  refine wpAny_bind (wpAny_newTuple ?_)
  have e4 : IsEnum (k3.push { cls := .type "tuple", data := .seq #[.int c tk, x] }) e it (c + 1) old := Heap.get?_push_of_some _ e3
  generalize hh : k3.push { cls := .type "tuple", data := .seq #[.int c tk, x] } = k4 at e4
  have sz : k3.objs.size = hp.objs.size := by rw [s3.1, s2.1, s1.1]
  have el : e < hp.objs.size := Heap.lt_size he
  have t4 : k4.get? hp.objs.size = some { cls := .type "tuple", data := .seq #[.int c tk, x] } := by rw [← hh, ← sz]; exact Heap.get?_push_size _ rfl
  have kp : ∀ b o, b ≠ e → b ≠ it → hp.get? b = some o → k4.get? b = some o := fun b o n1 n2 q => by rw [← hh]; exact Heap.get?_push_of_some _ (s3.extBut b o n1 (s2.extBut b o n1 (s1.extBut b o n2 q)))
  have i4 : k4.IsListIter it l (i + 1) := by
    obtain ⟨o, ho, r⟩ := (i1.extBut s2.extBut (Ne.symm hne)).extBut s3.extBut (Ne.symm hne)
    exact ⟨o, by rw [← hh]; exact Heap.get?_push_of_some _ ho, r⟩
  show wpAny _ _ (Builtin.SmallTypes.ownedTupleIsFree (.ref e) >>= _) _ _ ⟨k4, g, d, tk + 1, os⟩
  rw [sz]
  refine wpAny_bind ?_
  unfold Builtin.SmallTypes.ownedTupleIsFree
  refine wpAny_bind (wpAny_field e4 rfl (x := .none) rfl (wpAny_pure ?_))
  simp only [if_true]
  refine wpAny_bind (wpAny_rule (wpAny_bind (wpAny_field e4 rfl (x := old) rfl (wpAny_bind (wpAny_setField_rec e4 (by simp) fun k5 e5 s5 => ?_)))))
  have s5 : Heap.SameBut e k4 k5 := s5
  have e5 : IsEnum k5 e it (c + 1) x := e5
  show wpAny _ _ (Builtin.SmallTypes.ownedTupleHandOut (.ref e) (.ref hp.objs.size) >>= _) _ _ ⟨k5, g, d, tk + 1, os⟩
  refine wpAny_bind ?_
  unfold Builtin.SmallTypes.ownedTupleHandOut
  refine wpAny_bind (wpAny_setField_rec e5 (by simp) fun k6 e6 s6 => ?_)
  have s6 : Heap.SameBut e k5 k6 := s6
  have e6 : IsEnumOut k6 e it (c + 1) x hp.objs.size := e6
  refine wpAny_setField_rec e6 (by simp) fun k7 e7 s7 => ?_
  have s7 : Heap.SameBut e k6 k7 := s7
  have e7 : IsEnumOut k7 e it (c + 1) x hp.objs.size := e7
  have far : ∀ b o, b ≠ e → k4.get? b = some o → k7.get? b = some o := fun b o n q => s7.extBut b o n (s6.extBut b o n (s5.extBut b o n q))
  exact wpAny_bind (wpAny_letGo (wpAny_pure ⟨_, rfl, hQ k7 e7 (((i4.extBut s5.extBut (Ne.symm hne)).extBut s6.extBut (Ne.symm hne)).extBut s7.extBut (Ne.symm hne)) (far _ _ (Nat.ne_of_gt el) t4) fun b o n1 n2 q => far b o n1 (kp b o n1 n2 q)⟩))
theorem pyNext_enumC {e it l : Addr} {i : Nat} {c : Int} {its : Array Value} {x old : Value} {Q : Option Value → Shared → Prop} (he : IsEnum s.heap e it c old) (hit : s.heap.IsListIter it l i) (hl : s.heap.IsList l its) (hx : its[i]? = some x) (hne : e ≠ it)
    (hQ : ∀ h', IsEnumOut h' e it (c + 1) x s.heap.objs.size → h'.IsListIter it l (i + 1) → h'.get? s.heap.objs.size = some { cls := .type "tuple", data := .seq #[.int c s.toks, x] } →
      (∀ b o, b ≠ e → b ≠ it → s.heap.get? b = some o → h'.get? b = some o) → Q (some (.ref s.heap.objs.size)) { s with heap := h', toks := s.toks + 1 }) : wpAny (model P w) A (pyNext (.ref e)) Q E s := by
  have ty : s.TypeIs (.ref e) "enumerate" := ⟨_, he, rfl⟩
  unfold pyNext
  refine wpAny_bind (wpAny_attempt (wpAny_callSpecial?_slot (name := Str.ofString "__next__") ty F.slot_enumerate_next (wpAny_call_entry F.slot_enumerate_next ty F.entry_enumerate_next (enumC_next he hit hl hx hne fun h' a b c k => ?_) (F.args_enumerate_next_1 _))))
  exact wpAny_pure (hQ h' a b c k)
theorem pyNext_enumC_end {e it l : Addr} {i : Nat} {c : Int} {its : Array Value} {old : Value} {Q : Option Value → Shared → Prop} (hh : A.handled = none) (he : IsEnum s.heap e it c old) (hit : s.heap.IsListIter it l i) (hl : s.heap.IsList l its) (hx : its[i]? = none)
    (hQ : ∀ h', Heap.ExtBut it s.heap h' → Q none { s with heap := h' }) : wpAny (model P w) A (pyNext (.ref e)) Q E s := by
  have ty : s.TypeIs (.ref e) "enumerate" := ⟨_, he, rfl⟩
  unfold pyNext
  refine wpAny_bind (wpAny_attempt (wpAny_callSpecial?_slot (name := Str.ofString "__next__") ty F.slot_enumerate_next (wpAny_call_entry F.slot_enumerate_next ty F.entry_enumerate_next ?_ (F.args_enumerate_next_1 _))))
  show wpAny _ _ (field (.ref e) 2 >>= _) _ _ _
  refine wpAny_bind (wpAny_field he rfl (x := .ref it) rfl (wpAny_bind (wpAny_nextOf_list_end hh hit hl hx fun h' y hx' ⟨o, ho, ko⟩ => ?_)))
  exact wpAny_bind (wpAny_isInstance (T := "StopIteration") (b := true) ⟨o, ho, ko⟩ isSubtype_stop (wpAny_pure (hQ _ hx')))
end
noncomputable def IteS (K : PySem.W.Frag) (a : Addr) (n : Int) : It :=
  ⟨fun i H => ∃ xs x, SqL K H a xs ∧ xs[i]? = some x, fun i H x H' => ∃ T v, H T = none ∧ x = .ref T ∧ H' = upd H T (.tup [.int (n + (i : Nat)), v]) ∧ ∀ xs, SqL K H a xs → xs[i]? = some v, fun i H => ∃ xs, SqL K H a xs ∧ xs.length ≤ i⟩
theorem turn_enumS {P : Program} {w : World} {K : PySem.W.Frag} {elts : List Expr} {k : Nat} {pos : Pos} (a e it : Addr) (n : Int) (hne : e ≠ it) :
    Turn P w K (.Tuple elts k pos) (IteS K a n) [e, it] e (fun i h => (∃ old, IsEnum h e it (n + (i : Nat)) old) ∧ h.IsListIter it a i) where
  mem := by simp
  obj := fun i h st b hb => by
    obtain ⟨⟨old, he⟩, o, ho, hc, hd⟩ := st
    have z : b = e ∨ b = it := by simpa using hb
    rcases z with z | z
    · subst z
      exact ⟨_, he, fun v q => by
        have q' : Data.fields _ = Data.cell v := q
        cases q'⟩
    · subst z
      exact ⟨o, ho, fun v q => by rw [hd] at q; cases q⟩
  keep := fun i h h' st kk => by
    obtain ⟨⟨old, he⟩, hl⟩ := st
    exact ⟨⟨old, kk e (by simp) _ he⟩, hl.at fun o q => kk it (by simp) o q⟩
  item := by
    intro X hP hw hK hc i pins s σ H E I hf st hg
    subst hP hw hK
    obtain ⟨xs, x, hq, hx⟩ := hg
    obtain ⟨its, rv, p, hz⟩ := I.list hq
    obtain ⟨u, hu, ru⟩ := rv.get hx
    obtain ⟨⟨old, he⟩, hl⟩ := st
    have f1 := hf e (by simp)
    have f2 := hf it (by simp)
    refine pyNext_enumC he hl p.isList (x := u) (by simpa using hu) hne fun h1 a1 a2 a3 a5 => ⟨_, rfl, ?_⟩
    refine wpAny_letOwnedTupleGo_enum a1 fun h2 b1 b2 => ?_
    have nTe : s.heap.objs.size ≠ e := fun z => by
      have q := Heap.lt_size (show s.heap.get? e = some _ from he)
      rw [← z] at q; exact Nat.lt_irrefl _ q
    have keep2 : ∀ b o, b ≠ e → b ≠ it → s.heap.get? b = some o → h2.get? b = some o := fun b o n1 n2 q => b2.extBut b o n1 (a5 b o n1 n2 q)
    have tup2 : h2.get? s.heap.objs.size = some { cls := .type "tuple", data := .seq #[.int (n + (i : Nat)) s.toks, u] } := b2.extBut _ _ nTe a3
    have I2 : Inv X pins σ (upd H s.heap.objs.size (.tup [.int (n + (i : Nat)), x])) { s with heap := h2, toks := s.toks + 1 } :=
      I.turned2 keep2 f1 f2 (Nat.le_refl _) ⟨(by show 2 ≤ sizeLine; decide), [.int (n + (i : Nat)) s.toks, u], .cons ⟨_, rfl⟩ (.cons ru .nil), ⟨_, tup2, rfl, _, rfl⟩⟩
    refine ⟨.ref s.heap.objs.size, _, I2, rfl, ⟨s.heap.objs.size, x, I.hok.fresh (Nat.le_refl _), rfl, rfl, fun ys hy => by rw [I.list_inj hy hq]; exact hx⟩, ⟨⟨u, ?_⟩, (a2.extBut b2.extBut (Ne.symm hne))⟩, fun b hb => ?_⟩
    · have q : IsEnum h2 e it (n + (i : Nat) + 1) u := b1
      have c : n + (((i + 1 : Nat) : Nat) : Int) = n + (i : Nat) + 1 := by omega
      rw [c]; exact q
    · have z : b = e ∨ b = it := by simpa using hb
      have nT : b ≠ s.heap.objs.size := by
        rcases z with z | z
        · rw [z]; exact Ne.symm nTe
        · rw [z]
          obtain ⟨o, ho, _⟩ := hl
          exact Nat.ne_of_lt (Heap.lt_size ho)
      rw [upd_ne nT]
      exact (hf b hb).1
  done := by
    intro X hP hw hK hc i pins s σ H E I hf st hg
    subst hP hw hK
    obtain ⟨xs, hq, hx⟩ := hg
    obtain ⟨its, rv, p, hz⟩ := I.list hq
    obtain ⟨⟨old, he⟩, hl⟩ := st
    obtain ⟨f0, f1, f2, f3, f4, f5⟩ := hf it (by simp)
    have hlen := rv.length
    exact pyNext_enumC_end (I.ok.hd hc) he hl p.isList (by simp; omega) fun h' eb => ⟨rfl, I.turned (t' := s.toks) (fun b o hb q => eb b o hb q) f0 f1 f3 f4 f5⟩
  self := fun _ _ _ _ _ st h => by
    obtain ⟨⟨old, he⟩, _⟩ := st
    exact wpAny_pyIter_enum he h
section
variable {X : Cx} {elts : List Expr} {k : Nat} {tpos : Pos}
noncomputable def iEnumS (K : PySem.W.Frag) (ta tk : TA) : TI := fun σ H R => ta σ H fun vs H1 => tk σ H1 fun zs H2 => ∃ a n, vs = [.ref a] ∧ zs = [.int n] ∧ (0 ≤ n ∧ n < 1000) ∧ (∃ xs, SqL K H2 a xs) ∧ R (IteS K a n) H2
theorem callWith_typeK {M : Model} {env : Env} {pos : Pos} {T : String} {Q : Value → Shared → Prop} {e : Expr} {kws : List Keyword} {A : Around} {E : Value → Shared → Prop} {s : Shared}
    (h : wpAny M A (spliced (backTo pos (starEach [e] env))) (fun vs s1 => wpAny M A (evalAll ((backToKw pos (keywordEach kws env)).map (·.2))) (fun zs s2 => wpAny M A (call (.type T) vs (((backToKw pos (keywordEach kws env)).filterMap (·.1)).zip zs)) Q E s2) E s1) E s)
    (he : backTo pos (starEach [e] env) = (false, eval e env) :: backTo pos (starEach [] env) := by rfl) (hp : (backTo pos (starEach [e] env)).any (·.1) = false := by rfl) (ha : (backToKw pos (keywordEach kws env)).all (·.1.isSome) = true := by rfl) (hk : (backToKw pos (keywordEach kws env)).any (·.1.isNone) = false := by rfl) :
    wpAny M A (callWith pos (.type T) [] (backTo pos (starEach [e] env)) (backToKw pos (keywordEach kws env))) Q E s := by
  unfold callWith
  refine wpAny_bind (wpAny_holding (wpAny_mono (show wpAny M A (evalArgs _ true _ _) (fun a s1 => wpAny M A (call (.type T) a.pos a.kw) Q E s1) E s from ?_) (fun a s1 h1 => wpAny_bind (wpAny_standAt ?_)) fun _ _ x => x))
  · rw [he] at h ⊢
    exact evalArgs_kwB ha h
  · simp only [hp, hk, Bool.or_false]
    refine wpAny_bind (wpAny_pure ?_)
    exact wpAny_bind (wpAny_mono h1 (fun r s2 hr => wpAny_bind (wpAny_holding (wpAny_point (wpAny_pure hr)))) fun _ _ x => x)
theorem pi_enumS {a b : Expr} {ta tk : TA} {p pos kp : Pos} (hg : Gl X "enumerate") (hm : X.mg "enumerate" = none) (ha : PA X [a] ta) (hb : PK X [⟨some "start", b, kp⟩] tk) (he : ∀ pos, backTo pos (starEach [a] X.env) = (false, eval a X.env) :: backTo pos (starEach [] X.env) := by intro pos; rfl) :
    PI X (.Tuple elts k tpos) (.Call (.Name "enumerate" p) [a] [⟨some "start", b, kp⟩] pos) (iEnumS X.K ta tk) := by
  intro pins s σ H R I h
  refine wpAny_Call_Name_kw (ld_blt I hg hm boot_enumerate ?_)
  refine callWith_typeK (thn (ha pos pins s σ H _ I h) fun us s1 ⟨vs, H1, I1, r1, q1⟩ => thn (hb pos pins s1 σ H1 _ I1 q1) fun ws s2 ⟨zs, H2, I2, rz, q2⟩ => ?_) (he pos) (by rw [he pos]; rfl)
  obtain ⟨l, n, e1, e2, ⟨n0, n1⟩, ⟨xs, hq⟩, q⟩ := q2
  subst e1 e2
  cases r1 with
  | cons r rr =>
    cases rr
    cases r
    obtain ⟨u, e, ru⟩ := vals1 rz
    subst e
    obtain ⟨tc, e⟩ := ru
    subst e
    obtain ⟨its, rv, pl, hz⟩ := I2.list hq
    refine call_enumS (c := n) (tc := tc) (by unfold Builtin.SmallTypes.fitsIndex; simp; omega) pl.isList fun h' b1 b2 b4 => ?_
    refine wpAny_pyIter_enum b1 ?_
    have I3 : Inv X pins σ H2 { s2 with heap := h' } := I2.kept (t' := s2.toks) b4
    refine ⟨s2.heap.objs.size + 1, [s2.heap.objs.size + 1, s2.heap.objs.size], _, _, H2, rfl, I3, turn_enumS l (s2.heap.objs.size + 1) s2.heap.objs.size n (by show @Ne Nat _ _; omega), ⟨⟨_, by rw [show n + ((0 : Nat) : Int) = n from by omega]; exact b1⟩, b2⟩, fun b hb => ?_, q⟩
    have z : b = s2.heap.objs.size + 1 ∨ b = s2.heap.objs.size := by simpa using hb
    have hle : s2.heap.objs.size ≤ b := by
      rcases z with z | z
      · rw [z]; exact Nat.le_succ _
      · rw [z]; exact Nat.le_refl _
    exact I2.fpOk hle (I2.hok.fresh hle)
end
theorem for_enumS {K : PySem.W.Frag} {a : Addr} {n : Int} {xs : List V} {g : TG} {tb : TS} {D : Ends} {σ : St} {H : Hp} (Pv : Nat → St → Hp → Prop) (h0 : Pv 0 σ H) (hl : ∀ i σ H, i ≤ xs.length → Pv i σ H → SqL K H a xs)
    (hs : ∀ i x σ H T, xs[i]? = some x → Pv i σ H → H T = none → g (.ref T) σ (upd H T (.tup [.int (n + (i : Nat)), x])) fun σ2 H2 => tb { D with nx := Pv (i + 1), ct := Pv (i + 1), bk := D.nx } σ2 H2) (hd : ∀ σ H, Pv xs.length σ H → D.nx σ H) :
    ∃ W : Nat → Nat → St → Hp → Prop, (∃ m, W 0 m σ H) ∧ ∀ i m σ H, W i m σ H →
      ((IteS K a n).stop i H ∧ D.nx σ H) ∨ ((IteS K a n).go i H ∧ ∃ N : St → Hp → Prop, (∀ σ' H', N σ' H' → ∃ m', m' < m ∧ W (i + 1) m' σ' H') ∧ ∀ x H', (IteS K a n).yld i H x H' → g x σ H' fun σ2 H2 => tb { D with nx := N, ct := N, bk := D.nx } σ2 H2) := by
  refine ⟨fun i m σ H => m = xs.length - i ∧ i ≤ xs.length ∧ Pv i σ H, ⟨xs.length, by simp, Nat.zero_le _, h0⟩, ?_⟩
  rintro i m σ H ⟨rfl, hi, p⟩
  have q := hl i σ H hi p
  by_cases hlt : i < xs.length
  · refine .inr ⟨⟨xs, xs[i], q, by simp [hlt]⟩, Pv (i + 1), fun σ' H' p' => ⟨xs.length - (i + 1), by omega, rfl, hlt, p'⟩, fun x H' y => ?_⟩
    obtain ⟨T, v, hT, ex, eH, y⟩ := y
    subst ex eH
    exact hs i v σ H T (y xs q) p hT
  · have e : i = xs.length := by omega
    subst e
    exact .inl ⟨⟨xs, q, Nat.le_refl _⟩, hd σ H p⟩
end L2
set_option Elab.async false
set_option linter.all false
set_option maxRecDepth 100000
set_option maxHeartbeats 4000000
namespace L2
open PySem PySem.Spec PyProof.Rows
section
variable {X : Cx}
end
section
variable {K : PySem.W.Frag} {g : TG} {te : TE} {tt : TT} {σ0 : St} {QD : Hp → Prop} {H1 : Hp} {D : Addr}
end
end L2
set_option Elab.async false
set_option linter.all false
set_option maxRecDepth 100000
set_option maxHeartbeats 4000000
namespace LY
open PySem LZ
section
variable {prog : Program} {w : World} {A : Around} {E : Value → Shared → Prop} {s : Shared}
theorem next_first {z TI TO i1 i2 l : Addr} {m : Addr} {k : Nat} {xs ys : Array Value} {v u a b : Value} {Q : Option Value → Shared → Prop} (D : Apart5 z TI TO i1 i2 l) (mz : m ≠ z) (mTO : m ≠ TO) (mi1 : m ≠ i1) (mi2 : m ≠ i2)
    (hz : IsZ s.heap z TI TO .none false) (hTI : IsPair s.heap TI (.ref i1) (.ref i2)) (hTO : IsPair s.heap TO a b) (h1 : s.heap.IsListIter i1 l k) (h2 : s.heap.IsListIter i2 m k) (hl : s.heap.IsList l xs) (hm : s.heap.IsList m ys) (hv : xs[k]? = some v) (hc : ys[k]? = some u)
    (hQ : ∀ h', IsZ h' z TI TO (rawInt s.heap.objs.size) false → (∃ a b, IsPair h' TO a b) → h'.IsListIter i1 l (k + 1) → h'.IsListIter i2 m (k + 1) → IsPair h' s.heap.objs.size v u → h'.objs.size = s.heap.objs.size + 1 →
      (∀ c o, c ≠ z → c ≠ TO → c ≠ i1 → c ≠ i2 → s.heap.get? c = some o → h'.get? c = some o) → Q (some (.ref s.heap.objs.size)) { s with heap := h' }) :
    wpAny (model prog w) A (pyNext (.ref z)) Q E s := by
  have hT : s.TypeIs (.ref z) "zip" := ⟨_, hz, rfl⟩
  unfold pyNext
  refine wpAny_bind (wpAny_attempt (wpAny_callSpecial?_slot (name := Str.ofString "__next__") hT F.slot_zip_next
    (wpAny_call_entry F.slot_zip_next hT F.entry_zip_next ?_ (F.args_zip_next_1 _))))
  show wpAny _ _ (field (.ref z) 2 >>= _) _ _ _
  refine wpAny_bind (wpAny_field hz rfl (x := .bool false) rfl ?_)
  show wpAny _ _ (field (.ref z) 3 >>= _) _ _ _
  refine wpAny_bind (wpAny_field hz rfl (x := .ref TI) rfl ?_)
  refine wpAny_bind (wpAny_seqItems hTI rfl ?_)
  show wpAny _ _ (Builtin.SmallTypes.ownedTupleIsFree (.ref z) >>= _) _ _ _
  refine wpAny_bind ?_
  unfold Builtin.SmallTypes.ownedTupleIsFree
  refine wpAny_bind (wpAny_field hz rfl (x := .none) rfl (wpAny_pure ?_))
  simp only [if_true]
  refine wpAny_bind (wpAny_rule ?_)
  refine wpAny_bind (wpAny_field hz rfl (x := .ref TO) rfl ?_)
  refine wpAny_bind (wpAny_setField_rec hz (by simp) fun h₁ hz₁ hs₁ => ?_)
  replace hz₁ : IsZ h₁ z TI TO .ellipsis false := hz₁
  refine wpAny_bind ?_
  simp only [List.zipIdx_cons, List.zipIdx_nil, List.forIn_cons, List.forIn_nil]
  refine wpAny_bind (wpAny_bind (wpAny_onRaise ?_))
  show wpAny _ _ (Builtin.SmallTypes.nextOf (.ref i1) >>= _) _ _ _
  refine wpAny_bind (wpAny_nextOf_list_item (h1.extBut hs₁.extBut D.i1z) (hl.extBut hs₁.extBut D.lz) hv fun h₂ h1₂ hs₂ => wpAny_pure ?_)
  have hTO₂ : IsPair h₂ TO a b := hs₂.extBut _ _ D.TOi1 (hs₁.extBut _ _ D.TOz hTO)
  refine wpAny_bind (wpAny_seqItems hTO₂ rfl ?_)
  refine wpAny_bind (wpAny_updateSeq_pair hTO₂ fun h₃ hTO₃ hs₃ => ?_)
  replace hTO₃ : IsPair h₃ TO v b := hTO₃
  refine wpAny_bind (wpAny_letGo (wpAny_pure ?_))
  refine wpAny_bind (wpAny_bind (wpAny_onRaise ?_))
  show wpAny _ _ (Builtin.SmallTypes.nextOf (.ref i2) >>= _) _ _ _
  have h2₃ : h₃.IsListIter i2 m k := ((h2.extBut hs₁.extBut D.i2z).extBut hs₂.extBut D.i12.symm).extBut hs₃.extBut D.TOi2.symm
  refine wpAny_bind (wpAny_nextOf_list_item h2₃ (((hm.extBut hs₁.extBut mz).extBut hs₂.extBut mi1).extBut hs₃.extBut mTO) hc fun h₄ h2₄ hs₄ => wpAny_pure ?_)
  have hTO₄ : IsPair h₄ TO v b := hs₄.extBut _ _ D.TOi2 hTO₃
  refine wpAny_bind (wpAny_seqItems hTO₄ rfl ?_)
  refine wpAny_bind (wpAny_updateSeq_pair hTO₄ fun h₅ hTO₅ hs₅ => ?_)
  replace hTO₅ : IsPair h₅ TO v u := hTO₅
  refine wpAny_bind (wpAny_letGo (wpAny_pure (wpAny_pure ?_)))
  refine wpAny_bind (wpAny_seqItems hTO₅ rfl ?_)
  refine wpAny_bind (wpAny_newTuple ?_)
  have hsz : h₅.objs.size = s.heap.objs.size := by rw [hs₅.1, hs₄.1, hs₃.1, hs₂.1, hs₁.1]
  have hz₅ : IsZ h₅ z TI TO .ellipsis false := hs₅.extBut _ _ D.TOz.symm (hs₄.extBut _ _ D.i2z.symm (hs₃.extBut _ _ D.TOz.symm (hs₂.extBut _ _ D.i1z.symm hz₁)))
  have hk₅ : ∀ c o, c ≠ z → c ≠ TO → c ≠ i1 → c ≠ i2 → s.heap.get? c = some o → h₅.get? c = some o := fun c o c1 c2 c3 c4 e =>
    hs₅.extBut _ _ c2 (hs₄.extBut _ _ c4 (hs₃.extBut _ _ c2 (hs₂.extBut _ _ c3 (hs₁.extBut _ _ c1 e))))
  have h1₅ : h₅.IsListIter i1 l (k + 1) := ((h1₂.extBut hs₃.extBut D.TOi1.symm).extBut hs₄.extBut D.i12).extBut hs₅.extBut D.TOi1.symm
  have h2₅ : h₅.IsListIter i2 m (k + 1) := h2₄.extBut hs₅.extBut D.TOi2.symm
  have hzlt : z < h₅.objs.size := Heap.lt_size hz₅
  show wpAny _ _ (Builtin.SmallTypes.ownedTupleHandOut (.ref z) (.ref h₅.objs.size) >>= _) _ _ _
  refine wpAny_bind ?_
  unfold Builtin.SmallTypes.ownedTupleHandOut
  have hz₆ : IsZ (h₅.push { cls := .type "tuple", data := .seq #[v, u] }) z TI TO .ellipsis false := Heap.get?_push_of_some _ hz₅
  refine wpAny_bind (wpAny_setField_rec hz₆ (by simp) fun h₇ hz₇ hs₇ => ?_)
  replace hz₇ : IsZ h₇ z TI TO (rawInt h₅.objs.size) false := hz₇
  refine wpAny_setField_rec hz₇ (by simp) fun h₈ hz₈ hs₈ => ?_
  replace hz₈ : IsZ h₈ z TI TO (rawInt h₅.objs.size) false := hz₈
  have up : ∀ c o, c ≠ z → h₅.get? c = some o → h₈.get? c = some o := fun c o c1 e => hs₈.extBut _ _ c1 (hs₇.extBut _ _ c1 (Heap.get?_push_of_some _ e))
  have hT₈ : IsPair h₈ h₅.objs.size v u := hs₈.extBut _ _ (Nat.ne_of_gt hzlt) (hs₇.extBut _ _ (Nat.ne_of_gt hzlt) (Heap.get?_push_size _ rfl))
  have hz8 : h₈.objs.size = h₅.objs.size + 1 := by rw [hs₈.1, hs₇.1, Heap.size_push]
  rw [hsz] at hz₈ hT₈ hz8
  refine wpAny_pure ⟨_, rfl, wpAny_pure ?_⟩
  show Q (some (.ref h₅.objs.size)) _
  rw [hsz]
  exact hQ h₈ hz₈ ⟨_, _, up _ _ D.TOz hTO₅⟩ (h1₅.at fun o e => up _ o D.i1z e) (h2₅.at fun o e => up _ o D.i2z e) hT₈ hz8 fun c o c1 c2 c3 c4 e => up c o c1 (hk₅ c o c1 c2 c3 c4 e)
theorem next_later {z TI TO i1 i2 l T : Addr} {f1 : Bool} {oT : Obj} {m : Addr} {k : Nat} {xs ys : Array Value} {v u : Value} {Q : Option Value → Shared → Prop} (D : Apart5 z TI TO i1 i2 l) (mz : m ≠ z) (mTO : m ≠ TO) (mi1 : m ≠ i1) (mi2 : m ≠ i2)
    (hz : IsZ s.heap z TI TO (rawInt T) f1) (hT : s.heap.get? T = some oT) (hTI : IsPair s.heap TI (.ref i1) (.ref i2)) (h1 : s.heap.IsListIter i1 l k) (h2 : s.heap.IsListIter i2 m k) (hl : s.heap.IsList l xs) (hm : s.heap.IsList m ys) (hv : xs[k]? = some v) (hc : ys[k]? = some u)
    (hQ : ∀ h', IsZ h' z TI TO (rawInt T) true → h'.IsListIter i1 l (k + 1) → h'.IsListIter i2 m (k + 1) → IsPair h' s.heap.objs.size v u → h'.objs.size = s.heap.objs.size + 1 →
      (∀ c o, c ≠ z → c ≠ i1 → c ≠ i2 → s.heap.get? c = some o → h'.get? c = some o) → Q (some (.ref s.heap.objs.size)) { s with heap := h' }) :
    wpAny (model prog w) A (pyNext (.ref z)) Q E s := by
  have hTy : s.TypeIs (.ref z) "zip" := ⟨_, hz, rfl⟩
  unfold pyNext
  refine wpAny_bind (wpAny_attempt (wpAny_callSpecial?_slot (name := Str.ofString "__next__") hTy F.slot_zip_next
    (wpAny_call_entry F.slot_zip_next hTy F.entry_zip_next ?_ (F.args_zip_next_1 _))))
  show wpAny _ _ (field (.ref z) 2 >>= _) _ _ _
  refine wpAny_bind (wpAny_field hz rfl (x := .bool false) rfl ?_)
  show wpAny _ _ (field (.ref z) 3 >>= _) _ _ _
  refine wpAny_bind (wpAny_field hz rfl (x := .ref TI) rfl ?_)
  refine wpAny_bind (wpAny_seqItems hTI rfl ?_)
  show wpAny _ _ (Builtin.SmallTypes.ownedTupleIsFree (.ref z) >>= _) _ _ _
  refine wpAny_bind ?_
  unfold Builtin.SmallTypes.ownedTupleIsFree
  refine wpAny_bind (wpAny_field hz rfl (x := rawInt T) rfl ?_)
  show wpAny _ _ (loadIfAlive ((T : Int).toNat) >>= _) _ _ _
  rw [Int.toNat_natCast]
  refine wpAny_bind (alive hT ?_)
  simp only [Option.isNone_some, Bool.false_eq_true, if_false]
  refine wpAny_bind (wpAny_field hz rfl (x := .bool f1) rfl ?_)
  cases f1 with
  | false =>
    simp only [show (Value.bool false != Value.bool true) = true from rfl, if_true]
    refine wpAny_bind (wpAny_setField_rec hz (by simp) fun h₁ hz₁ hs₁ => wpAny_pure ?_)
    replace hz₁ : IsZ h₁ z TI TO (rawInt T) true := hz₁
    simp only [Bool.false_eq_true, if_false, List.forIn_toArray, List.forIn_cons, List.forIn_nil]
    refine wpAny_bind (wpAny_bind (wpAny_bind (wpAny_holding ?_)))
    show wpAny _ _ (Builtin.SmallTypes.nextOf (.ref i1) >>= _) _ _ _
    refine wpAny_bind (wpAny_nextOf_list_item (h1.extBut hs₁.extBut D.i1z) (hl.extBut hs₁.extBut D.lz) hv fun h₂ h1₂ hs₂ => wpAny_pure ?_)
    refine wpAny_pure ?_
    dsimp only
    refine wpAny_bind (wpAny_bind (wpAny_holding ?_))
    show wpAny _ _ (Builtin.SmallTypes.nextOf (.ref i2) >>= _) _ _ _
    have h2₂ : h₂.IsListIter i2 m k := (h2.extBut hs₁.extBut D.i2z).extBut hs₂.extBut D.i12.symm
    refine wpAny_bind (wpAny_nextOf_list_item h2₂ ((hm.extBut hs₁.extBut mz).extBut hs₂.extBut mi1) hc fun h₄ h2₄ hs₄ => wpAny_pure ?_)
    refine wpAny_pure (wpAny_pure ?_)
    dsimp only
    show wpAny _ _ (newTuple [v, u] >>= _) _ _ _
    refine wpAny_bind (wpAny_newTuple ?_)
    have hsz : h₄.objs.size = s.heap.objs.size := by rw [hs₄.1, hs₂.1, hs₁.1]
    have hz₄ : IsZ h₄ z TI TO (rawInt T) true := hs₄.extBut _ _ D.i2z.symm (hs₂.extBut _ _ D.i1z.symm hz₁)
    have hk₄ : ∀ c o, c ≠ z → c ≠ i1 → c ≠ i2 → s.heap.get? c = some o → h₄.get? c = some o := fun c o c1 c3 c4 e => hs₄.extBut _ _ c4 (hs₂.extBut _ _ c3 (hs₁.extBut _ _ c1 e))
    refine wpAny_pure ⟨_, rfl, wpAny_pure ?_⟩
    show Q (some (.ref h₄.objs.size)) _
    rw [hsz]
    exact hQ _ (Heap.get?_push_of_some _ hz₄) ((h1₂.extBut hs₄.extBut D.i12).at fun o e => Heap.get?_push_of_some _ e) (h2₄.at fun o e => Heap.get?_push_of_some _ e) (by rw [← hsz]; exact Heap.get?_push_size _ rfl) (by rw [Heap.size_push, hsz]) fun c o c1 c3 c4 e => Heap.get?_push_of_some _ (hk₄ c o c1 c3 c4 e)
  | true =>
    simp only [show (Value.bool true != Value.bool true) = false from rfl, Bool.false_eq_true, if_false]
    refine wpAny_pure ?_
    have hz₁ : IsZ s.heap z TI TO (rawInt T) true := hz
    have hs₁ : Heap.SameBut z s.heap s.heap := .refl ..
    simp only [Bool.false_eq_true, if_false, List.forIn_toArray, List.forIn_cons, List.forIn_nil]
    refine wpAny_bind (wpAny_bind (wpAny_bind (wpAny_holding ?_)))
    show wpAny _ _ (Builtin.SmallTypes.nextOf (.ref i1) >>= _) _ _ _
    refine wpAny_bind (wpAny_nextOf_list_item (h1.extBut hs₁.extBut D.i1z) (hl.extBut hs₁.extBut D.lz) hv fun h₂ h1₂ hs₂ => wpAny_pure ?_)
    refine wpAny_pure ?_
    dsimp only
    refine wpAny_bind (wpAny_bind (wpAny_holding ?_))
    show wpAny _ _ (Builtin.SmallTypes.nextOf (.ref i2) >>= _) _ _ _
    have h2₂ : h₂.IsListIter i2 m k := (h2.extBut hs₁.extBut D.i2z).extBut hs₂.extBut D.i12.symm
    refine wpAny_bind (wpAny_nextOf_list_item h2₂ ((hm.extBut hs₁.extBut mz).extBut hs₂.extBut mi1) hc fun h₄ h2₄ hs₄ => wpAny_pure ?_)
    refine wpAny_pure (wpAny_pure ?_)
    dsimp only
    show wpAny _ _ (newTuple [v, u] >>= _) _ _ _
    refine wpAny_bind (wpAny_newTuple ?_)
    have hsz : h₄.objs.size = s.heap.objs.size := by rw [hs₄.1, hs₂.1, hs₁.1]
    have hz₄ : IsZ h₄ z TI TO (rawInt T) true := hs₄.extBut _ _ D.i2z.symm (hs₂.extBut _ _ D.i1z.symm hz₁)
    have hk₄ : ∀ c o, c ≠ z → c ≠ i1 → c ≠ i2 → s.heap.get? c = some o → h₄.get? c = some o := fun c o c1 c3 c4 e => hs₄.extBut _ _ c4 (hs₂.extBut _ _ c3 (hs₁.extBut _ _ c1 e))
    refine wpAny_pure ⟨_, rfl, wpAny_pure ?_⟩
    show Q (some (.ref h₄.objs.size)) _
    rw [hsz]
    exact hQ _ (Heap.get?_push_of_some _ hz₄) ((h1₂.extBut hs₄.extBut D.i12).at fun o e => Heap.get?_push_of_some _ e) (h2₄.at fun o e => Heap.get?_push_of_some _ e) (by rw [← hsz]; exact Heap.get?_push_size _ rfl) (by rw [Heap.size_push, hsz]) fun c o c1 c3 c4 e => Heap.get?_push_of_some _ (hk₄ c o c1 c3 c4 e)
abbrev zH1 (h : Heap) (l : Addr) : Heap := h.push { cls := .type "list_iterator", data := .fields #[.ref l, .int 0 0] }
abbrev zH2 (h : Heap) (l m : Addr) : Heap := (zH1 h l).push { cls := .type "list_iterator", data := .fields #[.ref m, .int 0 0] }
abbrev zH3 (h : Heap) (l m : Addr) : Heap := (zH2 h l m).push { cls := .type "tuple", data := .seq #[.ref h.objs.size, .ref (zH1 h l).objs.size] }
abbrev zH4 (h : Heap) (l m : Addr) : Heap := (zH3 h l m).push { cls := .type "tuple", data := .seq #[.none, .none] }
abbrev zH5 (h : Heap) (l m : Addr) : Heap := (zH4 h l m).push { cls := .type "zip", data := .fields #[.none, .bool false, .bool false, .ref (zH2 h l m).objs.size, .ref (zH3 h l m).objs.size] }
theorem meets_new (l m : Addr) (xs ys : Array Value) :
    Meets (Builtin.«zip.__new__» ⟨[.type "zip", .ref l, .ref m], []⟩) (fun _ R s => s.heap.IsList l xs ∧ s.heap.IsList m ys ∧ R (.ok (.ret (.ref (zH4 s.heap l m).objs.size))) { s with heap := zH5 s.heap l m }) :=
  .of_wp fun prog w A R s h => by
    obtain ⟨hp, g, d, tk, os⟩ := s; obtain ⟨hl1, hl2, h⟩ := h
    have hsub := sub_zip
    have hL1 : Heap.IsList (Shared.heap ⟨hp, g, d, tk, os⟩) l xs := hl1
    have hL2 : Heap.IsList (Shared.heap ⟨hp.push { cls := .type "list_iterator", data := .fields #[.ref l, .int 0 0] }, g, d, tk, os⟩) m ys := hl2.push _
    wp_walk using wpAny_pyIter_list hL1, wpAny_pyIter_list hL2
    exact ⟨_, rfl, h⟩
theorem call_zip {l m : Addr} {xs ys : Array Value} {Q : Value → Shared → Prop} (hl1 : s.heap.IsList l xs) (hl2 : s.heap.IsList m ys)
    (h : ∀ h', IsZ h' (s.heap.objs.size + 4) (s.heap.objs.size + 2) (s.heap.objs.size + 3) .none false → IsPair h' (s.heap.objs.size + 2) (.ref s.heap.objs.size) (.ref (s.heap.objs.size + 1)) →
      IsPair h' (s.heap.objs.size + 3) .none .none → h'.IsListIter s.heap.objs.size l 0 → h'.IsListIter (s.heap.objs.size + 1) m 0 → h'.objs.size = s.heap.objs.size + 5 →
      (∀ c o, s.heap.get? c = some o → h'.get? c = some o) → Q (.ref (s.heap.objs.size + 4)) { s with heap := h' }) :
    wpAny (model prog w) A (call (.type "zip") [.ref l, .ref m]) Q E s := by
  refine callType_new F.called_zip (by decide) (F.typeCall_zip_2 _ _) (F.newCall_zip_2 _ _) (fun obj => F.args_object_init_3 obj _ _) F.entry_zip_new (meets_new l m xs ys) ⟨hl1, hl2, ?_⟩
  have z1 : (zH1 s.heap l).objs.size = s.heap.objs.size + 1 := Heap.size_push ..
  have z2 : (zH2 s.heap l m).objs.size = s.heap.objs.size + 2 := by rw [Heap.size_push, z1]
  have z3 : (zH3 s.heap l m).objs.size = s.heap.objs.size + 3 := by rw [Heap.size_push, z2]
  have z4 : (zH4 s.heap l m).objs.size = s.heap.objs.size + 4 := by rw [Heap.size_push, z3]
  have z5 : (zH5 s.heap l m).objs.size = s.heap.objs.size + 5 := by rw [Heap.size_push, z4]
  have g5 : (zH5 s.heap l m).get? (zH4 s.heap l m).objs.size = some _ := Heap.get?_push_size _ rfl
  have g4 : (zH5 s.heap l m).get? (zH3 s.heap l m).objs.size = some _ := Heap.get?_push_of_some _ (Heap.get?_push_size _ rfl)
  have g3 : (zH5 s.heap l m).get? (zH2 s.heap l m).objs.size = some _ := Heap.get?_push_of_some _ (Heap.get?_push_of_some _ (Heap.get?_push_size _ rfl))
  have g2 : (zH5 s.heap l m).get? (zH1 s.heap l).objs.size = some _ := Heap.get?_push_of_some _ (Heap.get?_push_of_some _ (Heap.get?_push_of_some _ (Heap.get?_push_size _ rfl)))
  have g1 : (zH5 s.heap l m).get? s.heap.objs.size = some _ := Heap.get?_push_of_some _ (Heap.get?_push_of_some _ (Heap.get?_push_of_some _ (Heap.get?_push_of_some _ (Heap.get?_push_size _ rfl))))
  show _ ∧ _
  rw [z2, z3, z4] at g5
  rw [z1, z2] at g3
  rw [z3] at g4
  rw [z1] at g2
  rw [z4]
  exact ⟨⟨_, g5, rfl⟩, h _ g5 g3 g4 ⟨_, g1, rfl, rfl⟩ ⟨_, g2, rfl, rfl⟩ z5 fun c o x =>
    Heap.get?_push_of_some _ (Heap.get?_push_of_some _ (Heap.get?_push_of_some _ (Heap.get?_push_of_some _ (Heap.get?_push_of_some _ x))))⟩

end
structure ApartM (z TI TO i1 i2 l m d : Addr) : Prop extends ApartD z TI TO i1 i2 l d where
  mz : m ≠ z
  mTO : m ≠ TO
  mi1 : m ≠ i1
  mi2 : m ≠ i2
  dm : d ≠ m
structure ZS (h : Heap) (z TI TO i1 i2 l d : Addr) (m : Addr) (xs ys : Array Value) (k : Nat) : Prop where
  zf : (IsZ h z TI TO .none false ∧ ∃ a b, IsPair h TO a b) ∨ ∃ (T : Addr) (f1 : Bool) (oT : Obj), IsZ h z TI TO (rawInt (T : Nat)) f1 ∧ h.get? T = some oT ∧ T ≠ z ∧ T ≠ i1 ∧ T ≠ i2 ∧ T ≠ d
  ti : IsPair h TI (.ref i1) (.ref i2)
  a1 : h.IsListIter i1 l k
  a2 : h.IsListIter i2 m k
  li : h.IsList l xs
  mi : h.IsList m ys
section
variable {prog : Program} {w : World} {K : Type} [DecidableEq K] {knd : KeyKind prog w K} {A : Around} {R : Result → Shared → Prop}
theorem zs_next {E : Value → Shared → Prop} {s : Shared} {z TI TO i1 i2 l d : Addr} {m : Addr} {xs ys : Array Value} {k : Nat} {v u : Value} {od : Obj} {Q : Option Value → Shared → Prop} (D : ApartM z TI TO i1 i2 l m d)
    (Z : ZS s.heap z TI TO i1 i2 l d m xs ys k) (hod : s.heap.get? d = some od) (hv : xs[k]? = some v) (hc : ys[k]? = some u)
    (hQ : ∀ h' T, ZS h' z TI TO i1 i2 l d m xs ys (k + 1) → IsPair h' T v u → T ≠ d → (∀ c o, c ≠ z → c ≠ TO → c ≠ i1 → c ≠ i2 → s.heap.get? c = some o → h'.get? c = some o) → Q (some (.ref T)) { s with heap := h' }) :
    wpAny (model prog w) A (pyNext (.ref z)) Q E s := by
  have lt : ∀ {c o}, s.heap.get? c = some o → s.heap.objs.size ≠ c := fun e => Nat.ne_of_gt (Heap.lt_size e)
  have l1 : s.heap.objs.size ≠ i1 := by obtain ⟨_, e, _⟩ := Z.a1; exact lt e
  have l2 : s.heap.objs.size ≠ i2 := by obtain ⟨_, e, _⟩ := Z.a2; exact lt e
  rcases Z.zf with ⟨hz, a, b, hTO⟩ | ⟨T, f1, oT, hz, hT, n1, n2, n3, n4⟩
  · refine next_first D.toApart5 D.mz D.mTO D.mi1 D.mi2 hz Z.ti hTO Z.a1 Z.a2 Z.li Z.mi hv hc fun h' b1 b2 b3 b4 b5 b6 b7 => ?_
    exact hQ h' _ ⟨.inr ⟨_, _, _, b1, b5, lt hz, l1, l2, lt hod⟩, b7 _ _ D.TIz D.TITO D.TIi1 D.TIi2 Z.ti, b3, b4, Z.li.at fun o e => b7 _ o D.lz D.lTO D.li1 D.li2 e, Z.mi.at fun o e => b7 _ o D.mz D.mTO D.mi1 D.mi2 e⟩ b5 (lt hod) b7
  · refine next_later D.toApart5 D.mz D.mTO D.mi1 D.mi2 hz hT Z.ti Z.a1 Z.a2 Z.li Z.mi hv hc fun h' b1 b3 b4 b5 b6 b7 => ?_
    exact hQ h' _ ⟨.inr ⟨T, _, oT, b1, b7 _ _ n1 n2 n3 hT, n1, n2, n3, n4⟩, b7 _ _ D.TIz D.TIi1 D.TIi2 Z.ti, b3, b4, Z.li.at fun o e => b7 _ o D.lz D.li1 D.li2 e, Z.mi.at fun o e => b7 _ o D.mz D.mi1 D.mi2 e⟩ b5 (lt hod) fun c o c1 _ c3 c4 e => b7 c o c1 c3 c4 e
theorem zs_end {E : Value → Shared → Prop} {s : Shared} {z TI TO i1 i2 l d : Addr} {m : Addr} {xs ys : Array Value} {k : Nat} {Q : Option Value → Shared → Prop} (hh : A.handled = none) (D : ApartM z TI TO i1 i2 l m d)
    (Z : ZS s.heap z TI TO i1 i2 l d m xs ys k) (hv : xs[k]? = none) (hQ : ∀ h', (∀ c o, c ≠ z → c ≠ i1 → s.heap.get? c = some o → h'.get? c = some o) → Q none { s with heap := h' }) : wpAny (model prog w) A (pyNext (.ref z)) Q E s := by
  rcases Z.zf with ⟨hz, a, b, hTO⟩ | ⟨T, f1, oT, hz, hT, n1, n2, n3, n4⟩
  · exact next_end (a := a) (b := b) hh D.toApart5 hz (.inl ⟨rfl, rfl, a, b, hTO⟩) Z.ti Z.a1 Z.li hv hQ
  · exact next_end (a := .none) (b := .none) hh D.toApart5 hz (.inr ⟨T, oT, rfl, hT⟩) Z.ti Z.a1 Z.li hv hQ
theorem ZS.dict {h h' : Heap} {z TI TO i1 i2 l d : Addr} {m : Addr} {xs ys : Array Value} {k : Nat} (D : ApartM z TI TO i1 i2 l m d) (Z : ZS h z TI TO i1 i2 l d m xs ys k) (hs : Heap.SameBut d h h') : ZS h' z TI TO i1 i2 l d m xs ys k := by
  refine ⟨?_, hs.extBut _ _ D.dTI.symm Z.ti, Z.a1.extBut hs.extBut D.di1.symm, Z.a2.extBut hs.extBut D.di2.symm, Z.li.extBut hs.extBut D.dl.symm, Z.mi.extBut hs.extBut D.dm.symm⟩
  rcases Z.zf with ⟨hz, a, b, hTO⟩ | ⟨T, f1, oT, hz, hT, n1, n2, n3, n4⟩
  · exact .inl ⟨hs.extBut _ _ D.dz.symm hz, a, b, hs.extBut _ _ D.dTO.symm hTO⟩
  · exact .inr ⟨T, f1, oT, hs.extBut _ _ D.dz.symm hz, hs.extBut _ _ n4 hT, n1, n2, n3, n4⟩
theorem dict_loop {z TI TO i1 i2 l d : Addr} {m : Addr} {xs ys : Array Value} (D : ApartM z TI TO i1 i2 l m d) (hh : A.handled = none) (ks : Nat → K) (hk : ∀ k v, xs[k]? = some v → knd.is (ks k) v = true)
    (hlen : xs.size ≤ ys.size) (hsz : xs.size ≤ sizeLine) : ∀ (mm k : Nat) (i : Int) (s : Shared) (kvs : List (K × Value)), xs.size - k = mm → k ≤ xs.size → ZS s.heap z TI TO i1 i2 l d m xs ys k → s.heap.DictOf knd d kvs → kvs.length ≤ k →
    (∀ h' tk (ps : List (K × Value)), ps.length = xs.size - k → (∀ (j : Nat) p, ps[j]? = some p → p.1 = ks (k + j) ∧ ys[k + j]? = some p.2) → h'.DictOf knd d (storedAll kvs ps) →
      (∀ c o, c ≠ z → c ≠ TO → c ≠ i1 → c ≠ i2 → c ≠ d → s.heap.get? c = some o → h'.get? c = some o) → R (.ok (.ret .none)) { s with heap := h', toks := tk }) →
    codeAny (model prog w) A (.builtin "dict.update.loop" ⟨[.ref d, .ref z, rawInt i, .none], []⟩) R s := by
  intro mm
  induction mm with
  | zero =>
    intro k i s kvs hm hkk Z hd hkl hR
    have hin : k = xs.size := by omega
    refine codeAny_builtin entry_upd ?_
    rw [Around.under_plainId plain_upd _]
    show wpAny _ A.in1 (pyNext (.ref z) >>= _) _ _ s
    refine wpAny_bind (zs_end (show A.in1.handled = none from hh) D Z (by rw [hin]; simp) fun h' hkeep => ?_)
    show wpAny _ _ (Builtin.Dict.addKeywords d [] >>= _) _ _ _
    refine wpAny_bind (wpAny_pure (wpAny_pure ?_))
    have hdn : d ≠ z := D.dz
    have hd' : h'.DictOf knd d kvs := by
      obtain ⟨o, es, ep, e1, r⟩ := hd
      exact ⟨o, es, ep, hkeep d o D.dz D.di1 e1, r⟩
    exact hR h' s.toks [] (by simp; omega) (fun j p e => by simp at e) hd' fun c o c1 _ c3 _ _ e => hkeep c o c1 c3 e
  | succ mm ih =>
    intro k i s kvs hm hkk Z hd hkl hR
    have hlt : k < xs.size := by omega
    have hv : xs[k]? = some xs[k] := by simp [hlt]
    have hltc : k < ys.size := by omega
    have hc : ys[k]? = some ys[k] := by simp [hltc]
    obtain ⟨od, es0, ep0, hod, _⟩ := id hd
    refine codeAny_builtin entry_upd ?_
    rw [Around.under_plainId plain_upd _]
    show wpAny _ A.in1 (pyNext (.ref z) >>= _) _ _ s
    refine wpAny_bind (zs_next D Z hod hv hc fun h1 T Z1 hT hTd hkeep => ?_)
    have hd1 : h1.DictOf knd d kvs := by
      obtain ⟨o, es, ep, e1, r⟩ := hd
      exact ⟨o, es, ep, hkeep d o D.dz D.dTO D.di1 D.di2 e1, r⟩
    refine wpAny_bind (wpAny_holding ?_)
    have hTy : (Shared.TypeIs { s with heap := h1 } (.ref T) "tuple") := ⟨_, hT, rfl⟩
    refine wpAny_bind (wpAny_tryCatch ?_)
    unfold Builtin.Dict.pairItems
    refine wpAny_bind (wpAny_typeOf hTy ?_)
    rw [if_pos (by decide)]
    refine wpAny_bind (wpAny_seqItems hT rfl (wpAny_pure ?_))
    show wpAny _ _ (holding [xs[k], _] (dictSet d xs[k] _)) _ _ _
    refine wpAny_holding (wpAny_dictSet_pairs (hk k _ hv) hd1 (fun h2 hd2 hs2 => ?_) (by omega))
    refine wpAny_pure ⟨plainId_quiet plain_upd _, ih (k + 1) (i + 1) _ _ (by omega) (by omega) (ZS.dict D Z1 hs2) hd2 (Nat.le_trans (stored_len _ _ _) (by omega)) fun h3 tk ps hl hp hd3 hk3 => ?_⟩
    refine hR h3 tk ((ks k, ys[k]) :: ps) (by rw [List.length_cons, hl]; omega) (fun j p e => ?_) hd3 fun c o c1 c2 c3 c4 c5 e => hk3 c o c1 c2 c3 c4 c5 (hs2.extBut c o c5 (hkeep c o c1 c2 c3 c4 e))
    cases j with
    | zero =>
      have e' : (ks k, ys[k]) = p := by simpa using e
      subst e'
      exact ⟨rfl, hc⟩
    | succ j =>
      have q := hp j p (by simpa using e)
      rw [show k + (j + 1) = k + 1 + j by omega]
      exact q
theorem call_dict {E : Value → Shared → Prop} {s : Shared} {z TI TO i1 i2 l : Addr} {m : Addr} {xs ys : Array Value} {Q : Value → Shared → Prop} (D : Apart5 z TI TO i1 i2 l) (mz : m ≠ z) (mTO : m ≠ TO) (mi1 : m ≠ i1) (mi2 : m ≠ i2) (hh : A.handled = none) (ks : Nat → K)
    (hk : ∀ k v, xs[k]? = some v → knd.is (ks k) v = true) (hlen : xs.size ≤ ys.size) (hsz : xs.size ≤ sizeLine) (hz : IsZ s.heap z TI TO .none false) (hTI : IsPair s.heap TI (.ref i1) (.ref i2)) (hTO : ∃ a b, IsPair s.heap TO a b)
    (h1 : s.heap.IsListIter i1 l 0) (h2 : s.heap.IsListIter i2 m 0) (hl : s.heap.IsList l xs) (hm : s.heap.IsList m ys)
    (h : ∀ h' tk (ps : List (K × Value)), ps.length = xs.size → (∀ (j : Nat) p, ps[j]? = some p → p.1 = ks j ∧ ys[j]? = some p.2) → h'.DictOf knd s.heap.objs.size (storedAll [] ps) →
      (∀ c o, c ≠ z → c ≠ TO → c ≠ i1 → c ≠ i2 → s.heap.get? c = some o → h'.get? c = some o) → Q (.ref s.heap.objs.size) { s with heap := h', toks := tk }) :
    wpAny (model prog w) A (call (.type "dict") [.ref z]) Q E s := by
  refine callType_codes (Q₁ := fun obj s1 => obj = .ref s.heap.objs.size ∧ s1 = { s with heap := s.heap.push { cls := .type "dict", data := .dict #[] } }) called_dict (typeCall_dict_1 _) F.entry_dict_init (code_dict_new _ ⟨rfl, rfl⟩) ?_
  rintro obj s1 ⟨rfl, rfl⟩
  have up : ∀ c o, s.heap.get? c = some o → (s.heap.push { cls := .type "dict", data := .dict #[] }).get? c = some o := fun c o e => Heap.get?_push_of_some _ e
  have hnew : (s.heap.push { cls := .type "dict", data := .dict #[] }).DictOf knd s.heap.objs.size [] := Heap.DictOf.new s.heap
  have lt : ∀ {c o}, s.heap.get? c = some o → s.heap.objs.size ≠ c := fun e => Nat.ne_of_gt (Heap.lt_size e)
  have l1 : s.heap.objs.size ≠ i1 := by obtain ⟨_, e, _⟩ := h1; exact lt e
  have l2 : s.heap.objs.size ≠ i2 := by obtain ⟨_, e, _⟩ := h2; exact lt e
  have ll : s.heap.objs.size ≠ l := by obtain ⟨_, e, _⟩ := hl; exact lt e
  have lm : s.heap.objs.size ≠ m := by obtain ⟨_, e, _⟩ := hm; exact lt e
  obtain ⟨a0, b0, hTO'⟩ := hTO
  have DD : ApartM z TI TO i1 i2 l m s.heap.objs.size := ⟨⟨D, lt hz, lt hTI, lt hTO', l1, l2, ll⟩, mz, mTO, mi1, mi2, lm⟩
  refine ⟨hnew.typeIs, F.args_dict_init_2 _ _, ?_⟩
  unfold Builtin.«dict.__init__»
  refine wpAny_bind ?_
  unfold Builtin.Dict.selfAndRest
  refine wpAny_bind (wpAny_notOrdered_dict hnew.typeIs ?_)
  show wpAny _ _ (pure (s.heap.objs.size, [Value.ref z])) _ _ _
  refine wpAny_pure ?_
  show wpAny _ _ (Builtin.Dict.updateFrom "dict.__init__" s.heap.objs.size (.ref z) [] .none) _ _ _
  unfold Builtin.Dict.updateFrom
  have hzT : Shared.TypeIs { s with heap := s.heap.push { cls := .type "dict", data := .dict #[] } } (.ref z) "zip" := ⟨_, up _ _ hz, rfl⟩
  refine wpAny_bind (wpAny_typeOf hzT ?_)
  rw [if_pos (by decide)]
  refine wpAny_bind (keys_miss (up _ _ hz) (show A.in1.in1.handled = none from hh) fun h3 tk k3 => ?_)
  simp only [Option.isNone_none, if_true]
  refine wpAny_bind (wpAny_rule ?_)
  have hz3 : IsZ h3 z TI TO .none false := k3 _ _ (up _ _ hz)
  refine wpAny_bind (wpAny_pyIter_zip (z := z) (TI := TI) (TO := TO) (f0 := .none) hz3 ?_)
  refine wpAny_pure ⟨plainId_quiet plain_upd _, ?_⟩
  have Z3 : ZS h3 z TI TO i1 i2 l s.heap.objs.size m xs ys 0 := ⟨.inl ⟨hz3, a0, b0, k3 _ _ (up _ _ hTO')⟩, k3 _ _ (up _ _ hTI), h1.at fun o e => k3 _ o (up _ o e), h2.at fun o e => k3 _ o (up _ o e), hl.at fun o e => k3 _ o (up _ o e), hm.at fun o e => k3 _ o (up _ o e)⟩
  have hd3 : h3.DictOf knd s.heap.objs.size [] := by
    obtain ⟨o, es, ep, e1, r⟩ := hnew
    exact ⟨o, es, ep, k3 _ _ e1, r⟩
  refine dict_loop DD (show A.in1.handled = none from hh) ks hk hlen hsz xs.size 0 0 _ [] (by simp) (Nat.zero_le _) Z3 hd3 (Nat.le_refl _) fun h4 tk4 ps hp1 hp2 hd4 hk4 => ?_
  refine ⟨rfl, h h4 tk4 ps (by simpa using hp1) (fun j p e => by simpa using hp2 j p e) hd4 fun c o c1 c2 c3 c4 e => hk4 c o c1 c2 c3 c4 (lt e).symm (k3 _ _ (up _ _ e))⟩
end
end LY
set_option Elab.async false
set_option linter.all false
set_option maxRecDepth 100000
set_option maxHeartbeats 4000000
namespace L2
open PySem PySem.Spec PyProof.Rows
noncomputable def zippedL (ns : List Str) (us : List V) : List (Key × V) := (ns.zip us).map fun p => (Sum.inr p.1, p.2)
section
variable {X : Cx} {a b : Expr} {ta : TA} {p1 p2 pos1 pos2 : Pos}
noncomputable def tDzipL (K : PySem.W.Frag) (ta : TA) : TE := fun σ H Q => ta σ H fun vs H1 => ∃ l m ns us, vs = [.ref l, .ref m] ∧ SqL K H1 l (ns.map V.str) ∧ SqL K H1 m us ∧ ns.length ≤ us.length ∧ ns.length < 1000 ∧ ∀ d, H1 d = none → Q (.ref d) (upd H1 d (.dK (putAll [] (zippedL ns us))))
theorem pe_dzipL (hc : X.calm = true) (hg : Gl X "dict") (hm : X.mg "dict" = none) (hg2 : Gl X "zip") (hm2 : X.mg "zip" = none) (ha : PA X [a, b] ta)
    (hs : starEach [a, b] X.env = [(false, eval a X.env), (false, eval b X.env)] := by rfl) (hs2 : starEach [b] X.env = [(false, eval b X.env)] := by rfl)
    (hs0 : starEach [.Call (.Name "zip" p2) [a, b] [] pos2] X.env = [(false, eval (.Call (.Name "zip" p2) [a, b] [] pos2) X.env)] := by rfl) :
    PE X (.Call (.Name "dict" p1) [.Call (.Name "zip" p2) [a, b] [] pos2] [] pos1) (tDzipL X.K ta) := by
  intro pins s σ H Q I h
  refine Call_ (ld_blt I hg hm PyProof.Rows.boot_dict (PyProof.Rows.callWith_type1 ?_ hs0 rfl))
  rw [hs0]
  show wpAny _ _ (spliced [(false, eval (.Call (.Name "zip" p2) [a, b] [] pos2) X.env)]) _ _ s
  refine Calls.spliced_cons ?_
  refine Call_ (ld_blt I hg2 hm2 PyProof.Rows.boot_zip (PyProof.Rows.callWith_type1 (thn (ha pos2 pins s σ H _ I h) fun ws s1 ⟨vs, H1, I1, r1, q1⟩ => ?_) (by rw [hs, hs2]) (by rw [hs2]; rfl)))
  obtain ⟨l, m, ns, us, e, hl, hm', hlen, hsm, q⟩ := q1
  subst e
  obtain ⟨u1, u2, e, ru1, ru2⟩ := vals2 r1
  subst e
  cases ru1
  cases ru2
  obtain ⟨its, rv, pl, _⟩ := I1.list hl
  obtain ⟨its2, rv2, pl2, _⟩ := I1.list hm'
  have hits2 : its2.length = us.length := rv2.length.symm
  have hits : its.length = ns.length := by have := rv.length; rw [List.length_map] at this; exact this.symm
  refine LY.call_zip pl.isList pl2.isList fun h2 b1 b2 b3 b4 b5 b6 b7 => ?_
  refine Calls.spliced_nil ?_
  have I2 : Inv X pins σ H1 { s1 with heap := h2 } := I1.kept (t' := s1.toks) b7
  have ltl : @LT.lt Nat _ l s1.heap.objs.size := by obtain ⟨o, ho, _⟩ := pl.isList; exact Heap.lt_size ho
  have ltm : @LT.lt Nat _ m s1.heap.objs.size := by obtain ⟨o, ho, _⟩ := pl2.isList; exact Heap.lt_size ho
  have big : 1000 < sizeLine := by decide
  refine LY.call_dict (knd := mixKind X.prog X.w) (i1 := s1.heap.objs.size) (i2 := s1.heap.objs.size + 1) (l := l) (m := m) (xs := its.toArray) (ys := its2.toArray) ⟨(by show @Ne Nat _ _; omega), (by show @Ne Nat _ _; omega), (by show @Ne Nat _ _; omega), (by show @Ne Nat _ _; omega), (by show @Ne Nat _ _; omega), (by show @Ne Nat _ _; omega), (by show @Ne Nat _ _; omega), (by show @Ne Nat _ _; omega), (by show @Ne Nat _ _; omega), (by show @Ne Nat _ _; omega), (by show @Ne Nat _ _; omega), (by show @Ne Nat _ _; omega), (by show @Ne Nat _ _; omega), (by show @Ne Nat _ _; omega)⟩ (by show @Ne Nat _ _; omega) (by show @Ne Nat _ _; omega) (by show @Ne Nat _ _; omega) (by show @Ne Nat _ _; omega) (I.ok.hd hc) (fun k => Sum.inr (ns.getD k Str.empty)) (fun k v hv => ?_)
    (by rw [List.size_toArray, List.size_toArray, hits, hits2]; exact hlen) (by rw [List.size_toArray, hits]; omega) b1 b2 ⟨_, _, b3⟩ b4 b5 (pl.isList.at fun o e => b7 _ o e) (pl2.isList.at fun o e => b7 _ o e) fun h3 tk ps hp1 hp2 hd3 hk3 => ?_
  · have hv' : its[k]? = some v := by simpa using hv
    have hk : k < ns.length := by have := (List.getElem?_eq_some_iff.mp hv').1; omega
    have e1 : (ns.map V.str)[k]? = some (.str (ns.getD k Str.empty)) := by
      rw [List.getElem?_map, List.getElem?_eq_getElem hk, List.getD_eq_getElem?_getD, List.getElem?_eq_getElem hk]; rfl
    obtain ⟨u, hu, ru⟩ := rv.get e1
    rw [hv'] at hu
    cases hu
    obtain ⟨t', e⟩ := ru
    subst e
    exact mixKind_str _ _ _ _
  · have hlenz : (zippedL ns us).length = ns.length := by unfold zippedL; rw [List.length_map, List.length_zip]; omega
    have kv : KV (zippedL ns us) ps := by
      refine paired_get (by rw [hlenz, hp1, List.size_toArray, hits]) fun j x y e1 e2 => ?_
      obtain ⟨f1, f2⟩ := hp2 j y e2
      unfold zippedL at e1
      rw [List.getElem?_map] at e1
      have hj : j < ns.length := by
        have := (List.getElem?_eq_some_iff.mp e2).1
        rw [hp1, List.size_toArray, hits] at this
        exact this
      have e3 : (ns.zip us)[j]? = some (ns[j], us[j]'(by omega)) := by rw [List.getElem?_zip_eq_some]; exact ⟨List.getElem?_eq_getElem hj, List.getElem?_eq_getElem (by omega)⟩
      rw [e3] at e1
      cases e1
      refine ⟨?_, ?_⟩
      · rw [f1]
        show (Sum.inr ns[j] : Key) = Sum.inr (ns.getD j Str.empty)
        rw [List.getD_eq_getElem?_getD, List.getElem?_eq_getElem hj]; rfl
      · obtain ⟨w2, g2, rr2⟩ := rv2.get (List.getElem?_eq_getElem (show j < us.length by omega))
        have f2' : its2[j]? = some y.2 := by simpa using f2
        rw [g2] at f2'
        cases f2'
        exact rr2
    have hnew : H1 h2.objs.size = none := I2.hok.fresh (Nat.le_refl _)
    have kept : ∀ c o, s1.heap.get? c = some o → h3.get? c = some o := fun c o e => by
      have : @LT.lt Nat _ c s1.heap.objs.size := Heap.lt_size e
      exact hk3 c o (by show @Ne Nat _ _; omega) (by show @Ne Nat _ _; omega) (by show @Ne Nat _ _; omega) (by show @Ne Nat _ _; omega) (b7 c o e)
    have hle : s1.heap.objs.size ≤ h2.objs.size := by omega
    have I3 : Inv X pins σ (upd H1 h2.objs.size (.dK (putAll [] (zippedL ns us)))) { s1 with heap := h3, toks := tk } := I1.laid kept hle ⟨by
        have := length_putAll (zippedL ns us) []
        rw [hlenz] at this
        simp only [List.length_nil] at this
        omega, beq_eq_false_iff_ne.mpr (by
        have : @LT.lt Nat _ sysModules s1.heap.objs.size := I1.big
        intro e
        have e' : @Eq Nat h2.objs.size sysModules := e
        omega), _, kv_all kv .nil, hd3⟩
    exact ⟨.ref h2.objs.size, _, I3, rfl, q _ hnew⟩
end
end L2
set_option Elab.async false
set_option linter.all false
set_option maxRecDepth 100000
set_option maxHeartbeats 4000000
namespace K2
open PySem L2
theorem ix_tupK {X : Cx} {K : PySem.W.Frag} (h : X.K = K) : IxR X (rIxT K) := by subst h; exact ix_tup
noncomputable def top (i : Nat) : Stmt := PySem.Challenge.pw_anydelay_k07_whole_named_otherwise.main.body.getD i (.Pass ⟨0, 0, 0, 0⟩)
structure Txt (K : PySem.W.Frag) (mg : Str → Option Value) (TT : Addr) : Prop where
  n_len : mg "len" = none
  n_range : mg "range" = none
  n_max : mg "max" = none
  n_min : mg "min" = none
  n_int : mg "int" = none
  n_list : mg "list" = none
  n_str : mg "str" = none
  n_isinstance : mg "isinstance" = none
  n_all : mg "all" = none
  n_dict : mg "dict" = none
  n_zip : mg "zip" = none
  n_enumerate : mg "enumerate" = none
  n_abs : mg "abs" = none
  n_tuple : mg "tuple" = none
  n_set : mg "set" = none
  n_sorted : mg "sorted" = none
  lETTERS : ∃ t, mg "LETTERS" = some (.str "abcdefghijklmnopqrstuvwxyz" t)
  mLETTERS : ∃ t, mg "MOST_LETTERS" = some (.int 8 t)
  mRULES : ∃ t, mg "MOST_RULES_WITHIN" = some (.int 10 t)
  mINPUTS : ∃ t, mg "MOST_INPUTS" = some (.int 4 t)
  mGATES : ∃ t, mg "MOST_GATES" = some (.int 7 t)
  pARTS : mg "PARTS_OF_RULE" = some (.ref TT)
  tab : tabAt K TT [("wire", .flat (.int 2)), ("not", .flat (.int 2)), ("and", .flat (.int 3)), ("or", .flat (.int 3))]
  tU : ∃ TU, mg "TURNED" = some (.ref TU) ∧ tabAt K TU [("0", .flat (.str "1")), ("1", .flat (.str "0"))]
structure Dk where
  d : Addr
  p : Addr
  qs : List Addr
noncomputable def Dk.own (D : Dk) (b : Addr) : Prop := b = D.d ∨ b ∈ D.qs
structure Dk.At (D : Dk) (H : Hp) : Prop where
  hd : ∃ n : Int, H D.d = some (.lst [.ref D.p, .int n])
  hp : H D.p = some (.lst (D.qs.map V.ref))
  ne : D.qs ≠ []
  few : D.qs.length ≤ 63
  pools : ∀ q ∈ D.qs, ∃ a b c : Int, H q = some (.lst [.int a, .int b, .int c])
structure Kp (D : Dk) (H H' : Hp) : Prop where
  old : ∀ b o, H b = some o → ¬ D.own b → H' b = some o
  dk : D.At H'
noncomputable def spDraw : Sp := fun vs H Q _ => ∃ (D : Dk) (m : Int), vs = [.ref D.d, .int m] ∧ D.At H ∧ 1 ≤ m ∧ m ≤ 100000 ∧ ∀ (r : Int) H', 0 ≤ r → r < m → Kp D H H' → Q (.int r) H'
local macro_rules | `(tactic| walk_at "vc") => `(tactic| first
  | ((refine' (?zz : (?zA → ?zG) → ?zA → ?zG) ?zr ?_); (case zr => with_reducible exact s_seqT); (case zz => exact fun _ q => q); intro D') | ((refine' (?zz : (?zA → ?zG) → ?zA → ?zG) ?zr ?_); (case zr => with_reducible exact s_nameT); (case zz => exact fun _ q => q); intro σ') | ((refine' (?zz : (?zA → ?zG) → ?zA → ?zG) ?zr ?_); (case zr => with_reducible first | exact s_asg | exact s_drop | exact s_ret | exact s_if | exact s_sub | exact s_next | exact i_c | exact i_op | exact i_test | exact i_tB | exact i_and | exact i_or | exact i_not | exact i_andV | exact i_orV | exact i_notV | exact i_ifE | exact i_nil | exact i_cons | exact i_cb | exact i_tup | exact i_lst | exact i_bm | exact i_sl | exact i_nopart | exact i_part | exact s_for | exact s_rng1 | exact s_list | exact s_str | exact i_dget | exact i_yes | exact i_un); (case zz => exact fun _ q => q))
  | ((with_reducible refine' i_var ?hv ?_); (case hv => exact rfl))   | (with_reducible first | refine i_rI0 ?_ | refine i_call ?_ | refine s_strI ?_ | refine iteF ?_ | refine iteT ?_ | refine i_rU ?_)
  | ((with_reducible show ∃ i, V.int _ = V.int i ∧ _); (refine ⟨_, rfl, ?_⟩)) | ((with_reducible show ∃ k, V.bl _ = V.bl k ∧ _); (refine ⟨_, rfl, ?_⟩)) | ((with_reducible show (∃ i, [V.bl _] = [V.int i] ∧ _) ∨ _); (refine Or.inr ⟨_, rfl, ?_⟩))
  | ((with_reducible refine' i_ixL ?ha ?hb ?_); (case ha => exact SqL.of (by assumption)); (case hb => exact rfl)) | ((with_reducible refine' i_ixT ?ha ?hb ?_); (case ha => assumption); (case hb => exact rfl))
  | ((with_reducible show ∃ p _, [V.ref _] = [V.ref p] ∧ (SqL _ _ _ _ ∨ SqT _ _ _ _) ∧ _); (refine' ⟨_, _, rfl, Or.inl (SqL.of ?ha), ?_⟩); (case ha => assumption)) | ((with_reducible refine' s_setL ?ha ?hb ?_); (case ha => assumption); (case hb => exact rfl))
  | ((with_reducible refine' i_eq ?ha ?_); (case ha => exact rfl)) | ((with_reducible refine' i_ne ?ha ?_); (case ha => exact rfl))
  | ((with_reducible show ∃ z, V.str _ = V.str z ∧ _); (refine ⟨_, rfl, ?_⟩)))
theorem at_mod {qs : List Addr} (ne : qs ≠ []) (n : Int) : ∃ q ∈ qs, atI (qs.map V.ref) (n % (qs.map V.ref).length) = some (V.ref q) := by
  have hl : 0 < qs.length := by
    cases qs with
    | nil => exact absurd rfl ne
    | cons a r => simp
  have e1 : (qs.map V.ref).length = qs.length := by simp
  rw [e1]
  have h1 : 0 ≤ n % (qs.length : Int) := Int.emod_nonneg _ (by omega)
  have h2 : n % (qs.length : Int) < qs.length := Int.emod_lt_of_pos _ (by omega)
  have h3 : (n % (qs.length : Int)).toNat < qs.length := by omega
  refine ⟨qs[(n % (qs.length : Int)).toNat], List.getElem_mem h3, ?_⟩
  have e : n % (qs.length : Int) = (((n % (qs.length : Int)).toNat : Nat) : Int) := by omega
  have q := atI_nat (xs := qs.map V.ref) (j := (n % (qs.length : Int)).toNat) (v := V.ref qs[(n % (qs.length : Int)).toNat]) (by rw [List.getElem?_map, List.getElem?_eq_getElem h3]; rfl)
  rw [← e] at q
  exact q
theorem int_ne_ref {a b c : Int} {p : Addr} {n : Int} : HO.lst [.int a, .int b, .int c] ≠ HO.lst [.ref p, .int n] := by intro z; injection z with z; cases z
theorem kp_mk {D : Dk} {H H1 : Hp} {q : Addr} {n a b c : Int} (DA : D.At H) (hq : q ∈ D.qs) (o : ∀ b, b ≠ D.d → b ≠ q → H1 b = H b) (h1 : H1 D.d = some (.lst [.ref D.p, .int n])) (h2 : H1 q = some (.lst [.int a, .int b, .int c])) : Kp D H H1 := by
  obtain ⟨⟨n0, hd⟩, hp, ne, few, pools⟩ := id DA
  obtain ⟨u, r, er⟩ : ∃ u r, D.qs = u :: r := by
    cases e : D.qs with
    | nil => exact absurd e ne
    | cons u r => exact ⟨u, r, rfl⟩
  have npd : D.p ≠ D.d := fun z => by
    rw [z, hd, er] at hp
    have hp := Option.some.inj hp
    injection hp with hp
    cases r with
    | nil => simp at hp
    | cons v s => simp at hp
  have npq : ∀ x ∈ D.qs, D.p ≠ x := fun x hx z => by
    obtain ⟨a', b', c', h'⟩ := pools x hx
    rw [← z, hp, er] at h'
    have h' := Option.some.inj h'
    injection h' with h'
    simp at h'
  refine ⟨fun b u e nb => ?_, ⟨⟨n, h1⟩, ?_, ne, few, fun x hx => ?_⟩⟩
  · rw [o b (fun z => nb (.inl z)) fun z => nb (.inr (z ▸ hq))]; exact e
  · rw [o _ npd (npq q hq)]; exact hp
  · by_cases z : x = q
    · subst z; exact ⟨_, _, _, h2⟩
    · obtain ⟨a', b', c', h'⟩ := pools x hx
      have nxd : x ≠ D.d := ne_of h' hd int_ne_ref
      exact ⟨a', b', c', by rw [o x nxd z]; exact h'⟩
theorem small_mul {i : Int} (h1 : 0 ≤ i) (h2 : i < 100000000000) (j : Int) : CMul i j := .inl ⟨by omega, by omega⟩

inductive Rl where
  | w (n : Str) | no (r : Rl) | an (a b : Rl) | orr (a b : Rl)
noncomputable def Rl.ok (ns : List Str) : Rl → Prop
  | .w n => n ∈ ns
  | .no r => r.ok ns
  | .an a b => a.ok ns ∧ b.ok ns
  | .orr a b => a.ok ns ∧ b.ok ns
noncomputable def Rl.dep : Rl → Nat
  | .w _ => 1
  | .no r => r.dep + 1
  | .an a b => max a.dep b.dep + 1
  | .orr a b => max a.dep b.dep + 1
noncomputable def Rl.val (f : Str → Bool) : Rl → Bool
  | .w n => f n
  | .no r => !r.val f
  | .an a b => a.val f && b.val f
  | .orr a b => a.val f || b.val f
inductive RAt (H : Hp) : V → Rl → Prop where
  | w {a : Addr} {n : Str} : H a = some (.tup [.str "wire", .str n]) → RAt H (.ref a) (.w n)
  | no {a : Addr} {v : V} {r : Rl} : H a = some (.tup [.str "not", v]) → RAt H v r → RAt H (.ref a) (.no r)
  | an {a : Addr} {v u : V} {r s : Rl} : H a = some (.tup [.str "and", v, u]) → RAt H v r → RAt H u s → RAt H (.ref a) (.an r s)
  | orr {a : Addr} {v u : V} {r s : Rl} : H a = some (.tup [.str "or", v, u]) → RAt H v r → RAt H u s → RAt H (.ref a) (.orr r s)
noncomputable def KeepT (H H' : Hp) : Prop := ∀ b xs, H b = some (.tup xs) → H' b = some (.tup xs)
theorem Same.tups {H H' : Hp} (S : Same H H') : KeepT H H' := fun b xs e => S b _ e
theorem RAt.mono {H H' : Hp} (hs : KeepT H H') {v : V} {r : Rl} (h : RAt H v r) : RAt H' v r := by
  induction h with
  | w e => exact .w (hs _ _ e)
  | no e _ ih => exact .no (hs _ _ e) ih
  | an e _ _ i1 i2 => exact .an (hs _ _ e) i1 i2
  | orr e _ _ i1 i2 => exact .orr (hs _ _ e) i1 i2
theorem Dk.At.same {D : Dk} {H H' : Hp} (S : Same H H') (h : D.At H) : D.At H' := by
  obtain ⟨⟨n, hd⟩, hp, ne, few, pools⟩ := h
  exact ⟨⟨n, S _ _ hd⟩, S _ _ hp, ne, few, fun q hq => let ⟨a, b, c, e⟩ := pools q hq; ⟨a, b, c, S _ _ e⟩⟩
theorem Kp.of {D : Dk} {H H' : Hp} (h : D.At H) (S : Same H H') : Kp D H H' := ⟨fun b o e _ => S b o e, h.same S⟩
theorem Kp.trans {D : Dk} {H H1 H2 : Hp} (a : Kp D H H1) (b : Kp D H1 H2) : Kp D H H2 := ⟨fun c o e n => b.old c o (a.old c o e n) n, b.dk⟩
theorem notOwn {D : Dk} {H : Hp} (DA : D.At H) {b : Addr} {o : HO} (h : H b = some o) (hi : ∀ xs, o = .lst xs → ∀ i : Int, V.int i ∉ xs) : ¬ D.own b := by
  obtain ⟨⟨n, hd⟩, hp, ne, few, pools⟩ := DA
  intro z
  rcases z with z | z
  · subst z
    rw [hd] at h
    have h := Option.some.inj h
    exact hi _ h.symm n (by simp)
  · obtain ⟨a, b', c, e⟩ := pools b z
    rw [e] at h
    have h := Option.some.inj h
    exact hi _ h.symm a (by simp)
theorem Kp.tups {D : Dk} {H H' : Hp} (DA : D.At H) (k : Kp D H H') : KeepT H H' := fun b xs e => k.old b _ e (notOwn DA e (fun _ z => nomatch z))
theorem noint_strs (ns : List Str) : ∀ i : Int, V.int i ∉ ns.map V.str := fun i h => by
  obtain ⟨x, _, e⟩ := List.mem_map.mp h
  cases e
theorem Kp.strs {D : Dk} {H H' : Hp} (DA : D.At H) (k : Kp D H H') {l : Addr} {ns : List Str} (h : H l = some (.lst (ns.map V.str))) : H' l = some (.lst (ns.map V.str)) :=
  k.old l _ h (notOwn DA h (fun xs e => by cases e; exact noint_strs ns))
theorem noint_refs {xs : List V} (h : ∀ x ∈ xs, ∃ a, x = V.ref a) : ∀ i : Int, V.int i ∉ xs := fun i hi => by
  obtain ⟨a, e⟩ := h _ hi
  cases e
theorem Kp.refs {D : Dk} {H H' : Hp} (DA : D.At H) (k : Kp D H H') {l : Addr} {xs : List V} (h : H l = some (.lst xs)) (hr : ∀ x ∈ xs, ∃ a, x = V.ref a) : H' l = some (.lst xs) :=
  k.old l _ h (notOwn DA h (fun ys e => by cases e; exact noint_refs hr))
noncomputable def GAt (H : Hp) (v : V) (g : Str × Rl) : Prop := ∃ b rv, v = .ref b ∧ H b = some (.tup [.str g.1, rv]) ∧ RAt H rv g.2
theorem GAt.mono {H H' : Hp} (hs : KeepT H H') {v : V} {g : Str × Rl} (h : GAt H v g) : GAt H' v g := let ⟨b, rv, e, h1, h2⟩ := h; ⟨b, rv, e, hs _ _ h1, h2.mono hs⟩
structure NAt (H : Hp) (a li lg : Addr) (ins : List Str) (vs : List V) (gs : List (Str × Rl)) : Prop where
  ha : H a = some (.tup [.ref li, .ref lg])
  hi : H li = some (.lst (ins.map V.str))
  hg : H lg = some (.lst vs)
  gates : Paired (GAt H) vs gs
theorem gates_refs {H : Hp} : ∀ {vs : List V} {gs : List (Str × Rl)}, Paired (GAt H) vs gs → ∀ x ∈ vs, ∃ a, x = V.ref a
  | _, _, .nil => fun x hx => nomatch hx
  | _, _, .cons h t => fun x hx => by
    rcases List.mem_cons.mp hx with e | hx
    · obtain ⟨b, _, e', _⟩ := h; exact ⟨b, e.trans e'⟩
    · exact gates_refs t x hx
theorem gates_mono {H H' : Hp} (hs : KeepT H H') : ∀ {vs : List V} {gs : List (Str × Rl)}, Paired (GAt H) vs gs → Paired (GAt H') vs gs
  | _, _, .nil => .nil
  | _, _, .cons h t => .cons (h.mono hs) (gates_mono hs t)
theorem NAt.same {H H' : Hp} {a li lg : Addr} {ins : List Str} {vs : List V} {gs : List (Str × Rl)} (S : Same H H') (h : NAt H a li lg ins vs gs) : NAt H' a li lg ins vs gs := ⟨S _ _ h.ha, S _ _ h.hi, S _ _ h.hg, gates_mono (Same.tups S) h.gates⟩
theorem NAt.kp {D : Dk} {H H' : Hp} {a li lg : Addr} {ins : List Str} {vs : List V} {gs : List (Str × Rl)} (DA : D.At H) (k : Kp D H H') (h : NAt H a li lg ins vs gs) : NAt H' a li lg ins vs gs :=
  ⟨k.tups DA _ _ h.ha, k.strs DA h.hi, k.refs DA h.hg (gates_refs h.gates), gates_mono (k.tups DA) h.gates⟩
noncomputable def wiresN (ins : List Str) (gs : List (Str × Rl)) : List Str := ins ++ gs.map (·.1)
structure Low (z : Str) : Prop where
  l1 : 1 ≤ z.length
  l8 : z.length ≤ 8
  low : ∀ c ∈ z.cps.toList, 97 ≤ c ∧ c ≤ 122
structure NetOk (ins : List Str) (gs : List (Str × Rl)) : Prop where
  i4 : ins.length ≤ 20
  g7 : gs.length ≤ 20
  rules : ∀ g ∈ gs, g.2.ok (wiresN ins gs) ∧ g.2.dep ≤ 10
  low : ∀ n ∈ wiresN ins gs, Low n
abbrev IsNet (ins : List Str) (gs : List (Str × Rl)) : Prop := ins.length ≤ 4 ∧ 1 ≤ gs.length ∧ gs.length ≤ 7 ∧ (wiresN ins gs).Nodup
structure StOk (n : Nat) (z : Str) : Prop where
  len : z.cps.size = n
  signs : ∀ c ∈ z.cps.toList, c = 48 ∨ c = 49
noncomputable def sg (b : Bool) : V := if b then .str "1" else .str "0"
noncomputable def sgn (names : List Str) (z : Str) (n : Str) : Bool := z.cps.getD (names.idxOf n) 0 == 49
noncomputable def DFn (kvs : List (Key × V)) (names : List Str) (f : Str → Bool) : Prop := ∀ n ∈ names, valV kvs (Sum.inr n : Key) = some (sg (f n))
set_option Elab.async false
set_option linter.all false
set_option maxRecDepth 100000
set_option maxHeartbeats 4000000

noncomputable def spWires : Sp := fun vs H Q _ => ∃ a li lg ins gvs gs, vs = [.ref a] ∧ NAt H a li lg ins gvs gs ∧ NetOk ins gs ∧ ∀ l H', Same H H' → H l = none → H' l = some (.lst ((wiresN ins gs).map V.str)) → Q (.ref l) H'
noncomputable def spGates : Sp := fun vs H Q _ => ∃ a li lg ins gvs gs, vs = [.ref a] ∧ NAt H a li lg ins gvs gs ∧ NetOk ins gs ∧ ∀ l H', Same H H' → H l = none → H' l = some (.lst ((gs.map (·.1)).map V.str)) → Q (.ref l) H'
theorem ifT {c : Bool} {A B : Prop} (hc : c = true) (h : A) : if c = true then A else B := by rw [if_pos hc]; exact h
theorem ifF {c : Bool} {A B : Prop} (hc : c = false) (h : B) : if c = true then A else B := by subst hc; exact iteF h
theorem same_upd {H H' : Hp} {D : Addr} {o : HO} (S : Same H H') (hD : H D = none) : Same H (upd H' D o) := fun b u e => by rw [upd_ne (ne_of_none e hD)]; exact S b u e
theorem comp_gate {K : PySem.W.Frag} {σ : St} {H : Hp} {Q : VK} {i : Nat} {c : Int} {a li lg : Addr} {gvs vals : List V} (hσ : σ[i]? = some (some (.ref a))) (ha : H a = some (.tup [.ref li, .ref lg])) (hg : H lg = some (.lst gvs)) (hs : gvs.length ≤ 1000)
    (hx : ∀ (j : Nat) x, gvs[j]? = some x → ∃ b ys v, x = .ref b ∧ H b = some (.tup ys) ∧ atI ys c = some v ∧ vals[j]? = some v) (hl : vals.length = gvs.length)
    (q : ∀ D H', H D = none → Same H H' → H' D = some (.lst vals) → Q (.ref D) H') :
    tComp (iList K (tOp (rIxT K) (tVar i) (tC (V.int 1)))) (gName 0) tYes (tOp (rIxT K) (tVar 0) (tC (V.int c))) (blockSt [Str.ofString "gate"] []) σ H Q := by
  refine i_comp (s_list (i_op (i_var hσ (i_c (i_ixT ha rfl ⟨lg, rfl, ⟨_, SqL.of hg⟩, fun D hD => ?_⟩)))))
  have big : 1000 < sizeLine := by decide
  refine comp_list (xs := gvs) (fun n H' ys => Same H H' ∧ H' D = some (.lst ys) ∧ ys = vals.take n) ⟨fresh_same hD, upd_same, by simp⟩ (fun n H' ys p => ⟨p.2.1, SqL.of (p.1 _ _ hg)⟩) (fun n x H' ys e p => ?_) (fun H' ys p => ?_)
  · obtain ⟨S, hd, rfl⟩ := p
    obtain ⟨b, zs, v, rfl, hb, hv, hv2⟩ := hx n x e
    have hn : n < gvs.length := (List.getElem?_eq_some_iff.mp e).1
    refine s_name ⟨trivial, ?_⟩
    refine i_yes (iteT ?_)
    refine i_op (i_var rfl (i_c (i_ixT (S _ _ hb) hv (NextC.mk hd hn (by rw [List.length_take]; omega) ⟨same_upd S hD, upd_same, ?_⟩))))
    rw [List.take_succ, hv2]; rfl
  · obtain ⟨S, hd, rfl⟩ := p
    exact q D H' hD S (by rw [hd, List.take_of_length_le (by omega)])
theorem paired_at {α β : Type} {F : α → β → Prop} : ∀ {xs : List α} {ys : List β}, Paired F xs ys → ∀ (j : Nat) x, xs[j]? = some x → ∃ y, ys[j]? = some y ∧ F x y
  | _, _, .nil => fun j x e => by simp at e
  | _, _, .cons (a := a) (b := b) h t => fun j x e => by
    cases j with
    | zero => simp at e; subst e; exact ⟨_, rfl, h⟩
    | succ j => simp at e; obtain ⟨y, e', f⟩ := paired_at t j x e; exact ⟨y, by simpa using e', f⟩
theorem paired_len {α β : Type} {F : α → β → Prop} : ∀ {xs : List α} {ys : List β}, Paired F xs ys → xs.length = ys.length
  | _, _, .nil => rfl
  | _, _, .cons h t => by simp [paired_len t]
theorem comp_names {K : PySem.W.Frag} {σ : St} {H : Hp} {Q : VK} {i : Nat} {a li lg : Addr} {ins : List Str} {gvs : List V} {gs : List (Str × Rl)} (hσ : σ[i]? = some (some (.ref a))) (NA : NAt H a li lg ins gvs gs) (ok : NetOk ins gs)
    (q : ∀ D H', H D = none → Same H H' → H' D = some (.lst ((gs.map (·.1)).map V.str)) → Q (.ref D) H') :
    tComp (iList K (tOp (rIxT K) (tVar i) (tC (V.int 1)))) (gName 0) tYes (tOp (rIxT K) (tVar 0) (tC (V.int 0))) (blockSt [Str.ofString "gate"] []) σ H Q := by
  have l := paired_len NA.gates
  have g7 := ok.g7
  refine comp_gate (vals := (gs.map (·.1)).map V.str) hσ NA.ha NA.hg (by omega) (fun j x e => ?_) (by simp [l]) q
  obtain ⟨g, e', b, rv, rfl, hb, hr⟩ := paired_at NA.gates j x e
  exact ⟨b, _, _, rfl, hb, rfl, by simp [e']⟩
theorem wires_len {ins : List Str} {gs : List (Str × Rl)} (ok : NetOk ins gs) : (ins.map V.str).length + ((gs.map (·.1)).map V.str).length ≤ sizeLine := by
  have g7 := ok.g7
  have i4 := ok.i4
  have big : 1000 < sizeLine := by decide
  simp only [List.length_map]
  omega
theorem wires_map (ins : List Str) (gs : List (Str × Rl)) : ins.map V.str ++ (gs.map (·.1)).map V.str = (wiresN ins gs).map V.str := by unfold wiresN; rw [List.map_append]
section
variable {P : Program} {w : World} {K : PySem.W.Frag} {mg : Str → Option Value} {base : Heap} {TT : Addr}
theorem sc_gates_of : FnScope ["net"] ["net"] (defScope (top 18)) := ⟨rfl, rfl, rfl, by decide +kernel, rfl, by decide +kernel, by decide +kernel⟩
theorem ok_gates {f : Addr} {fd : FuncData} (Fu : Fun K "gates_of" "gates_of" (top 18) f fd) (T : Txt K mg TT) : FnOk P w K mg base CX0 1 f fd ["net"] spGates := by
  have S := sc_gates_of
  refine Fu.ok S (fun vs H Q E h => ?_) (fun cdv A outer s H vs Q E hr h => ?_)
  · obtain ⟨a, li, lg, ins, gvs, gs, rfl, _⟩ := h
    rfl
  · obtain ⟨a, li, lg, ins, gvs, gs, rfl, NA, ok, k⟩ := h
    refine ⟨_, (pss_one (ps_ret (pe_lc (tgs := ["gate"]) (cap := []) rfl ⟨rfl, rfl, rfl, rfl, rfl, rfl⟩ (pi_list (pe_ix ix_tup (pv 0) pe_int (fun _ _ => rfl))) (fun _ _ _ _ => (pg_name (i := 0) (show List.Nodup [("gate" : Str)] by decide +kernel) rfl (by first | exact Or.inl rfl | exact Or.inr rfl))) (fun _ _ _ _ => pifs_nil) (fun _ _ _ _ => (pe_ix (ix_tupK (K := K) rfl) (pv 0) pe_int (fun _ _ => rfl)))))), ?_⟩
    dsimp only [cxOf, Cx.nox, Cx.wish]
    rw [show L2.start ["net"] [V.ref a] = [some (.ref a)] from rfl]
    refine comp_names (Q := Q) rfl NA ok fun D H2 hD s2 h2 => ?_
    exact k D H2 s2 hD h2
theorem sc_wires_of : FnScope ["net"] ["net"] (defScope (top 19)) := ⟨rfl, rfl, rfl, by decide +kernel, rfl, by decide +kernel, by decide +kernel⟩
theorem ok_wires {f : Addr} {fd : FuncData} (Fu : Fun K "wires_of" "wires_of" (top 19) f fd) (T : Txt K mg TT) (f_gates_of : Fn P w K mg base "gates_of" ["net"] 1 spGates) : FnOk P w K mg base CX0 2 f fd ["net"] spWires := by
  have S := sc_wires_of
  refine Fu.ok S (fun vs H Q E h => ?_) (fun cdv A outer s H vs Q E hr h => ?_)
  · obtain ⟨a, li, lg, ins, gvs, gs, rfl, _⟩ := h
    rfl
  · obtain ⟨a, li, lg, ins, gvs, gs, rfl, NA, ok, k⟩ := h
    obtain ⟨ha, hi, hg, gts⟩ := id NA
    refine ⟨_, (pss_one (ps_ret (pe_op op_cat (pe_callTy call_list_of (by rfl) T.n_list PyProof.Rows.boot_list (pa_cons (pe_ix ix_tup (pv 0) pe_int (fun _ _ => rfl)) pa_nil)) (pe_fn f_gates_of (hr.mono (by first | decide | omega)) (by rfl) (pa_cons (pv 0) pa_nil))))), ?_⟩
    dsimp only [cxOf, Cx.nox, Cx.wish]
    rw [show L2.start ["net"] [V.ref a] = [some (.ref a)] from rfl]
    repeat (first | walk_at "vc" | with_reducible refine i_comp ?_)
    intro l hl
    have s1 := fresh_same (o := .lst (ins.map V.str)) hl
    have NA1 := NA.same s1
    repeat (first | walk_at "vc" | with_reducible refine i_comp ?_)
    refine ⟨a, li, lg, ins, gvs, gs, rfl, NA1, ok, fun D H2 s2 hD h2 => ?_⟩
    have hl2 : H2 l = some (.lst (ins.map V.str)) := s2 _ _ upd_same
    refine i_cat hl2 h2 (wires_len ok) fun p hp => ?_
    have hs : Same H (upd H2 p (HO.lst (ins.map V.str ++ (gs.map (·.1)).map V.str))) := s1.trans (s2.trans (fresh_same hp))
    refine k p _ hs (Same.free (s1.trans s2) hp) ?_
    rw [upd_same, wires_map]
end
end K2
set_option Elab.async false
set_option linter.all false
set_option maxRecDepth 100000
set_option maxHeartbeats 4000000
namespace K2
open PySem L2
local macro_rules | `(tactic| walk_at "vc") => `(tactic| first
  | ((refine' (?zz : (?zA → ?zG) → ?zA → ?zG) ?zr ?_); (case zr => with_reducible exact s_seqT); (case zz => exact fun _ q => q); intro D') | ((refine' (?zz : (?zA → ?zG) → ?zA → ?zG) ?zr ?_); (case zr => with_reducible exact s_nameT); (case zz => exact fun _ q => q); intro σ') | ((refine' (?zz : (?zA → ?zG) → ?zA → ?zG) ?zr ?_); (case zr => with_reducible first | exact s_asg | exact s_drop | exact s_ret | exact s_if | exact s_sub | exact s_next | exact i_c | exact i_op | exact i_test | exact i_tB | exact i_and | exact i_or | exact i_not | exact i_andV | exact i_orV | exact i_notV | exact i_ifE | exact i_nil | exact i_cons | exact i_cb | exact i_tup | exact i_lst | exact i_bm | exact i_sl | exact i_nopart | exact i_part | exact s_for | exact s_rng1 | exact s_list | exact s_str | exact i_dget | exact i_yes | exact i_un); (case zz => exact fun _ q => q))
  | ((with_reducible refine' i_var ?hv ?_); (case hv => exact rfl))   | (with_reducible first | refine i_rI0 ?_ | refine i_call ?_ | refine s_strI ?_ | refine iteF ?_ | refine iteT ?_ | refine i_rU ?_)
  | ((with_reducible show ∃ i, V.int _ = V.int i ∧ _); (refine ⟨_, rfl, ?_⟩)) | ((with_reducible show ∃ k, V.bl _ = V.bl k ∧ _); (refine ⟨_, rfl, ?_⟩)) | ((with_reducible show (∃ i, [V.bl _] = [V.int i] ∧ _) ∨ _); (refine Or.inr ⟨_, rfl, ?_⟩))
  | ((with_reducible refine' i_ixL ?ha ?hb ?_); (case ha => exact SqL.of (by assumption)); (case hb => exact rfl)) | ((with_reducible refine' i_ixT ?ha ?hb ?_); (case ha => assumption); (case hb => exact rfl))
  | ((with_reducible show ∃ p _, [V.ref _] = [V.ref p] ∧ (SqL _ _ _ _ ∨ SqT _ _ _ _) ∧ _); (refine' ⟨_, _, rfl, Or.inl (SqL.of ?ha), ?_⟩); (case ha => assumption)) | ((with_reducible refine' s_setL ?ha ?hb ?_); (case ha => assumption); (case hb => exact rfl))
  | ((with_reducible refine' i_eq ?ha ?_); (case ha => exact rfl)) | ((with_reducible refine' i_ne ?ha ?_); (case ha => exact rfl))
  | ((with_reducible show ∃ z, V.str _ = V.str z ∧ _); (refine ⟨_, rfl, ?_⟩))
  | ((with_reducible refine' i_rI ?hv ?_); (case hv => first | decide | (dsimp only; omega) | exact .inl ⟨by omega, by omega⟩ | exact .inr ⟨by omega, by omega⟩ | exact ⟨by decide, by decide⟩ | exact ⟨by decide, by decide, by decide⟩ | exact ⟨by omega, by omega⟩))
  | ((with_reducible show ∃ i, [V.int _] = [V.int i] ∧ _); (refine ⟨_, rfl, ?_⟩))
  | ((with_reducible show tyV _ "list" _ _ ∧ _); (refine' ⟨i_tyL ?ha, ?_⟩); (case ha => assumption)))

noncomputable def spPair : Sp := fun vs H Q _ => ∃ a xs, vs = [.ref a] ∧ H a = some (.tup xs) ∧ xs.length ≤ 1000 ∧ Q (.bl (decide (xs.length = 2))) H
noncomputable def spName : Sp := fun vs H Q _ => ∃ z, vs = [.str z] ∧ Low z ∧ ∀ H', Same H H' → Q (.bl true) H'
theorem i_chain {r r' : R2} {ta tb tc : TE} {σ : St} {H : Hp} {Q : VK} (q : ta σ H fun x H1 => tb σ H1 fun y H2 => r x y H2 fun z H3 => ∃ k, z = .bl k ∧ (if k = true then tc σ H3 fun w' H4 => r' y w' H4 Q else Q (.bl false) H3)) : tChain r r' ta tb tc σ H Q := q
theorem low_in {c : Nat} (h : 97 ≤ c ∧ c ≤ 122) : (!(Builtin.Str.occurrences (Str.ofString "abcdefghijklmnopqrstuvwxyz") (⟨#[c]⟩ : Str) 0 (Str.ofString "abcdefghijklmnopqrstuvwxyz").length 1).isEmpty) = true := by
  have all : ∀ k : Fin 26, (!(Builtin.Str.occurrences (Str.ofString "abcdefghijklmnopqrstuvwxyz") (⟨#[97 + k.val]⟩ : Str) 0 (Str.ofString "abcdefghijklmnopqrstuvwxyz").length 1).isEmpty) = true := by decide +kernel
  have q := all ⟨c - 97, by omega⟩
  have e : 97 + (c - 97) = c := by omega
  simpa only [e] using q
section
variable {P : Program} {w : World} {K : PySem.W.Frag} {mg : Str → Option Value} {base : Heap} {TT : Addr}
theorem sc_is_pair : FnScope ["thing"] ["thing"] (defScope (top 14)) := ⟨rfl, rfl, rfl, by decide +kernel, rfl, by decide +kernel, by decide +kernel⟩
theorem ok_pair {f : Addr} {fd : FuncData} (Fu : Fun K "is_pair" "is_pair" (top 14) f fd) (T : Txt K mg TT) : FnOk P w K mg base CX0 1 f fd ["thing"] spPair := by
  have S := sc_is_pair
  refine Fu.ok S (fun vs H Q E h => ?_) (fun cdv A outer s H vs Q E hr h => ?_)
  · obtain ⟨a, xs, rfl, _⟩ := h
    rfl
  · obtain ⟨a, xs, rfl, ha, hx, q⟩ := h
    refine ⟨_, (pss_one (ps_ret (pe_and (pe_callB call_isinst (by rfl) T.n_isinstance PyProof.Rows.boot_isinstance (pa_cons (pv 0) (pa_cons (pe_bltn (v := .ty "tuple") (by rfl) T.n_tuple PyProof.Rows.boot_tuple rfl) pa_nil))) (pe_one (pe_cmpR op_eq (pe_callB call_len_seq (by rfl) T.n_len PySem.boot_len (pa_cons (pv 0) pa_nil)) pe_int (nomark _)))))), ?_⟩
    dsimp only [cxOf, Cx.nox, Cx.wish]
    rw [show L2.start ["thing"] [V.ref a] = [some (.ref a)] from rfl]
    repeat walk_at "vc"
    refine ⟨_, _, _, true, rfl, .tup ha, kit_same _, ?_⟩
    refine ⟨_, rfl, iteT ?_⟩
    repeat walk_at "vc"
    refine ⟨a, xs, rfl, .inr (SqT.of ha), ?_⟩
    repeat walk_at "vc"
    have e : decide (V.int ↑xs.length = V.int 2) = decide (xs.length = 2) := by
      rw [Bool.eq_iff_iff, decide_eq_true_iff, decide_eq_true_iff]
      constructor
      · intro h
        injection h with h
        omega
      · intro h
        rw [h]; rfl
    rw [e]
    exact q
theorem sc_is_name : FnScope ["thing"] ["thing"] (defScope (top 12)) := ⟨rfl, rfl, rfl, by decide +kernel, rfl, by decide +kernel, by decide +kernel⟩
theorem ok_name {f : Addr} {fd : FuncData} (Fu : Fun K "is_name" "is_name" (top 12) f fd) (T : Txt K mg TT) : FnOk P w K mg base CX0 1 f fd ["thing"] spName := by
  have S := sc_is_name
  refine Fu.ok S (fun vs H Q E h => ?_) (fun cdv A outer s H vs Q E hr h => ?_)
  · obtain ⟨z, rfl, _⟩ := h
    rfl
  · obtain ⟨z, rfl, lz, q⟩ := h
    obtain ⟨_, gLT⟩ := T.lETTERS
    obtain ⟨_, gML⟩ := T.mLETTERS
    refine ⟨_, (pss_cons (ps_if (PW.pt (pw_or (pt_not (pt_val (pe_callB call_isinst (by rfl) T.n_isinstance PyProof.Rows.boot_isinstance (pa_cons (pv 0) (pa_cons (pe_bltn (v := .ty "str") (by rfl) T.n_str PyProof.Rows.boot_str rfl) pa_nil))))) (pw_or1 (pt_not (pt_chain op_le op_le pe_int (pe_callB call_len_str (by rfl) T.n_len PySem.boot_len (pa_cons (pv 0) pa_nil)) (pe_glob (v := .int 8) (by rfl) gML ⟨_, rfl⟩)))))) (pss_one (ps_ret pe_bl)) pss_nil)
      (pss_one (ps_ret (pe_callB (call_all rfl) (by rfl) T.n_all PyProof.Rows.boot_all (pa_cons (pe_lc (tgs := ["sign"]) (cap := []) rfl ⟨rfl, rfl, rfl, rfl, rfl, rfl⟩ (pi_str (pv 0)) (fun _ _ _ _ => (pg_name (i := 0) (show List.Nodup [("sign" : Str)] by decide +kernel) rfl (by first | exact Or.inl rfl | exact Or.inr rfl))) (fun _ _ _ _ => pifs_nil) (fun _ _ _ _ => (pe_cmpR op_in_str (pv 0) (pe_glob (v := .str "abcdefghijklmnopqrstuvwxyz") (by rfl) gLT ⟨_, rfl⟩) rfl))) pa_nil))))), ?_⟩
    dsimp only [cxOf, Cx.nox, Cx.wish]
    rw [show L2.start ["thing"] [V.str z] = [some (.str z)] from rfl]
    repeat walk_at "vc"
    refine ⟨_, _, _, _, rfl, TyOf.str z, kit_same "str", ?_⟩
    refine ⟨_, rfl, iteF ?_⟩
    have big : 1000 < sizeLine := by decide
    have l1 := lz.l1
    have l8 := lz.l8
    repeat walk_at "vc"
    refine i_chain ?_
    repeat walk_at "vc"
    refine ⟨_, rfl, by omega, ?_⟩
    repeat walk_at "vc"
    refine ifT (decide_eq_true (by omega)) ?_
    repeat walk_at "vc"
    refine ifF (by rw [decide_eq_true (by omega)]; rfl) ?_
    repeat walk_at "vc"
    refine i_comp ?_
    repeat walk_at "vc"
    intro D hD
    refine comp_itf (fun n H' ys => Same H H' ∧ H' D = some (.lst ys) ∧ ys = (List.replicate n true).map V.bl) ⟨fresh_same hD, upd_same, rfl⟩ (fun n H' ys p => p.2.1) (fun n H' ys hn p => ?_) (fun H' ys p => ?_)
    · obtain ⟨Sm, hd, rfl⟩ := p
      refine s_name ⟨trivial, i_yes (iteT ?_)⟩
      refine i_op (i_var rfl (i_c ⟨_, _, rfl, rfl, ?_⟩))
      refine NextC.mk hd hn (by rw [List.length_map, List.length_replicate]; have : z.cps.size = z.length := rfl; omega) ⟨same_upd Sm hD, upd_same, ?_⟩
      have hc := low_in (c := z.cps.getD n 0) (by
        have e : z.cps.getD n 0 = z.cps[n] := by simp [Array.getD, hn]
        rw [e]
        exact lz.low _ (by simp))
      rw [List.replicate_succ', List.map_append]
      exact congrArg (fun b => List.map V.bl (List.replicate n true) ++ [V.bl b]) hc
    · obtain ⟨Sm, hd, rfl⟩ := p
      refine i_nil ⟨_, _, rfl, SqL.of hd, ?_⟩
      have e : (List.replicate z.cps.size true).all id = true := by simp
      rw [e]
      exact q H' Sm
end
set_option Elab.async false
set_option linter.all false
set_option maxRecDepth 100000
set_option maxHeartbeats 4000000

noncomputable def spUnlike : Sp := fun vs H Q _ => ∃ (l : Addr) (ts : List Str), vs = [.ref l] ∧ H l = some (.lst (ts.map V.str)) ∧ ts.length ≤ 100 ∧ (∀ z ∈ ts, Low z) ∧ ∀ H', Same H H' → Q (.bl (decide ts.Nodup)) H'
theorem i_lens {K : PySem.W.Frag} {ta : TA} {σ : St} {H : Hp} {Q : VK} (q : ta σ H fun vs H1 => ∃ (l : Addr) (ts : List Str), vs = [.ref l] ∧ SqL K H1 l (ts.map V.str) ∧ ts.length < 1000 ∧ Q (.int (uniq ts)) H1) : tLenSet K ta σ H Q := q
section
variable {P : Program} {w : World} {K : PySem.W.Frag} {mg : Str → Option Value} {base : Heap} {TT : Addr}
theorem sc_are_unlike_names : FnScope ["things"] ["things"] (defScope (top 16)) := ⟨rfl, rfl, rfl, by decide +kernel, rfl, by decide +kernel, by decide +kernel⟩
theorem ok_unlike {f : Addr} {fd : FuncData} (Fu : Fun K "are_unlike_names" "are_unlike_names" (top 16) f fd) (T : Txt K mg TT) (f_is_name : Fn P w K mg base "is_name" ["thing"] 1 spName) : FnOk P w K mg base CX0 2 f fd ["things"] spUnlike := by
  have S := sc_are_unlike_names
  refine Fu.ok S (fun vs H Q E h => ?_) (fun cdv A outer s H vs Q E hr h => ?_)
  · obtain ⟨l, ts, rfl, _⟩ := h
    rfl
  · obtain ⟨l, ts, rfl, hl, sz, low, q⟩ := h
    refine ⟨_, (pss_one (ps_ret (pe_and (pe_callB (call_all rfl) (by rfl) T.n_all PyProof.Rows.boot_all (pa_cons (pe_lc (tgs := ["thing"]) (cap := []) rfl ⟨rfl, rfl, rfl, rfl, rfl, rfl⟩ (pi_list (pv 0)) (fun _ _ _ _ => (pg_name (i := 0) (show List.Nodup [("thing" : Str)] by decide +kernel) rfl (by first | exact Or.inl rfl | exact Or.inr rfl))) (fun _ _ _ _ => pifs_nil) (fun _ _ _ _ => (pe_fn f_is_name (hr.mono (by first | decide | omega)) (by rfl) (pa_cons (pv 0) pa_nil)))) pa_nil)) (pe_one (pe_cmpR op_eq (pe_lenset rfl (by rfl) T.n_len (by rfl) T.n_set (pa_cons (pv 0) pa_nil)) (pe_callB call_len_seq (by rfl) T.n_len PySem.boot_len (pa_cons (pv 0) pa_nil)) (nomark _)))))), ?_⟩
    dsimp only [cxOf, Cx.nox, Cx.wish]
    rw [show L2.start ["things"] [V.ref l] = [some (.ref l)] from rfl]
    have big : 1000 < sizeLine := by decide
    repeat walk_at "vc"
    refine i_comp ?_
    repeat walk_at "vc"
    refine ⟨l, rfl, ⟨_, SqL.of hl⟩, fun D hD => ?_⟩
    refine comp_list (xs := ts.map V.str) (fun n H' ys => Same H H' ∧ H' D = some (.lst ys) ∧ ys = (List.replicate n true).map V.bl) ⟨fresh_same hD, upd_same, rfl⟩ (fun n H' ys p => ⟨p.2.1, SqL.of (p.1 _ _ hl)⟩) (fun n x H' ys e p => ?_) (fun H' ys p => ?_)
    · obtain ⟨Sm, hd, rfl⟩ := p
      have hn : n < (ts.map V.str).length := (List.getElem?_eq_some_iff.mp e).1
      rw [List.getElem?_map] at e
      obtain ⟨z, hz, rfl⟩ : ∃ z, ts[n]? = some z ∧ V.str z = x := by
        cases h : ts[n]? with
        | none => rw [h] at e; cases e
        | some z => rw [h] at e; exact ⟨z, rfl, Option.some.inj e⟩
      refine s_name ⟨trivial, i_yes (iteT ?_)⟩
      refine i_call (i_cons (i_var rfl (i_nil ⟨z, rfl, low z (List.mem_of_getElem? hz), fun H2 S2 => ?_⟩)))
      refine NextC.mk (S2 _ _ hd) hn (by rw [List.length_map, List.length_replicate]; rw [List.length_map] at hn; omega) ⟨same_upd (Sm.trans S2) hD, upd_same, ?_⟩
      rw [List.replicate_succ', List.map_append]; rfl
    · obtain ⟨Sm, hd, rfl⟩ := p
      refine i_nil ⟨_, _, rfl, SqL.of hd, ?_⟩
      have e : (List.replicate (ts.map V.str).length true).all id = true := by simp
      rw [e]
      have hl' := Sm _ _ hl
      refine ⟨_, rfl, iteT ?_⟩
      repeat walk_at "vc"
      refine i_lens ?_
      repeat walk_at "vc"
      refine ⟨l, ts, rfl, SqL.of hl', by omega, ?_⟩
      repeat walk_at "vc"
      have e2 : decide (V.int (uniq ts) = V.int ((ts.map V.str).length : Nat)) = decide ts.Nodup := by
        rw [Bool.eq_iff_iff, decide_eq_true_iff, decide_eq_true_iff, ← uniq_all, List.length_map]
        constructor
        · intro h
          injection h with h
          omega
        · intro h
          rw [h]
      rw [e2]
      exact q H' Sm
end
set_option Elab.async false
set_option linter.all false
set_option maxRecDepth 100000
set_option maxHeartbeats 4000000

noncomputable def spRuleOk (d : Nat) : Sp := fun vs H Q _ => ∃ (v : V) (r : Rl) (l : Addr) (ws : List Str) (n : Int), vs = [v, .ref l, .int n] ∧ RAt H v r ∧ r.dep ≤ d ∧ (r.dep : Int) ≤ n ∧ n ≤ 100 ∧ r.ok ws ∧ H l = some (.lst (ws.map V.str)) ∧ ws.length ≤ 100 ∧ ∀ H', Same H H' → Q (.bl true) H'
theorem i_parts {ty : TE} {σ : St} {H : Hp} {Q : VK} (q : ty σ H fun y H1 => ∃ p ∈ partsN, y = .str p.1 ∧ Q (.int p.2) H1) : tParts ty σ H Q := q
theorem inV_str {nm : Str} : ∀ {ns : List Str}, inV (.str nm) (ns.map V.str) = true ↔ nm ∈ ns
  | [] => by simp [inV]
  | n :: ns => by
    have ih := inV_str (nm := nm) (ns := ns)
    unfold inV at ih ⊢
    rw [List.map_cons, List.any_cons, Bool.or_eq_true, ih, List.mem_cons]
    have : eqV (.str n) (.str nm) = (n == nm) := rfl
    rw [this, beq_iff_eq]
    exact ⟨fun h => h.imp Eq.symm id, fun h => h.imp Eq.symm id⟩
theorem flat_strs (ns : List Str) : (ns.map V.str).all flatV = true := by
  rw [List.all_eq_true]
  intro x hx
  obtain ⟨n, _, rfl⟩ := List.mem_map.mp hx
  rfl
theorem six_one (n d : Nat) : HT.sIx (n + 1) d (some 1) = 1 := by
  show HT.sIx (n + 1) d (some ((1 : Nat) : Int)) = 1
  rw [HT.sIx_nat]
  omega
theorem cut_one (x : V) (as : List V) : cutV (x :: as) (some 1) none = as := by
  unfold cutV
  rw [List.length_cons, six_one, HT.sIx_none]
  simp
theorem rl_open {H : Hp} {v : V} {r : Rl} {ws : List Str} (ra : RAt H v r) (rok : r.ok ws) : ∃ (b : Addr) (p : Str × Int) (as : List V), v = .ref b ∧ H b = some (.tup (.str p.1 :: as)) ∧ p ∈ partsN ∧ p.2 = (as.length : Int) + 1 ∧ as.length ≤ 2 ∧ 1 ≤ as.length ∧
    ((p.1 = "wire" ∧ ∃ nm, as = [.str nm] ∧ nm ∈ ws) ∨ (p.1 ≠ "wire" ∧ ∀ x ∈ as, ∃ r', RAt H x r' ∧ r'.dep + 1 ≤ r.dep ∧ r'.ok ws)) := by
  cases ra with
  | @w b n hb => exact ⟨b, ("wire", 2), [.str n], rfl, hb, by simp [partsN], rfl, by simp, by simp, .inl ⟨rfl, n, rfl, rok⟩⟩
  | @no b u r hb h1 =>
    refine ⟨b, ("not", 2), [u], rfl, hb, by simp [partsN], rfl, by simp, by simp, .inr ⟨by decide +kernel, fun x hx => ?_⟩⟩
    obtain rfl := List.mem_singleton.mp hx
    exact ⟨r, h1, by simp [Rl.dep], rok⟩
  | @an b u x r1 r2 hb h1 h2 =>
    refine ⟨b, ("and", 3), [u, x], rfl, hb, by simp [partsN], rfl, by simp, by simp, .inr ⟨by decide +kernel, fun y hy => ?_⟩⟩
    rcases List.mem_cons.mp hy with e | e
    · subst e; exact ⟨r1, h1, by simp only [Rl.dep]; omega, rok.1⟩
    · obtain rfl := List.mem_singleton.mp e
      exact ⟨r2, h2, by simp only [Rl.dep]; omega, rok.2⟩
  | @orr b u x r1 r2 hb h1 h2 =>
    refine ⟨b, ("or", 3), [u, x], rfl, hb, by simp [partsN], rfl, by simp, by simp, .inr ⟨by decide +kernel, fun y hy => ?_⟩⟩
    rcases List.mem_cons.mp hy with e | e
    · subst e; exact ⟨r1, h1, by simp only [Rl.dep]; omega, rok.1⟩
    · obtain rfl := List.mem_singleton.mp e
      exact ⟨r2, h2, by simp only [Rl.dep]; omega, rok.2⟩
section
variable {P : Program} {w : World} {K : PySem.W.Frag} {mg : Str → Option Value} {base : Heap} {TT : Addr}
theorem fnok_false {k : Nat} {f : Addr} {fd : FuncData} {ps : List Str} {sp : Sp} (h : ∀ vs H Q E, sp vs H Q E → False) : FnOk P w K mg base CX0 k f fd ps sp :=
  ⟨fun vs H Q E q => (h vs H Q E q).elim, fun _ _ _ _ _ _ vs Q E _ _ _ _ q => (h _ _ _ _ q).elim⟩
theorem dep_pos (r : Rl) : 1 ≤ r.dep := by cases r <;> simp [Rl.dep]
theorem sc_is_rule : FnScope ["thing", "wires", "depth", "kind"] ["thing", "wires", "depth"] (defScope (top 13)) := ⟨rfl, rfl, rfl, by decide +kernel, rfl, by decide +kernel, by decide +kernel⟩
theorem ok_isrule {f : Addr} {fd : FuncData} (Fu : Fun K "is_rule" "is_rule" (top 13) f fd) (T : Txt K mg TT) (hm : mg "is_rule" = some (.ref f)) (hk : PySem.W.keepIn K (.ref f) = true) (hb : Binds K fd ["thing", "wires", "depth"] []) : ∀ d, FnOk P w K mg base CX0 d f fd ["thing", "wires", "depth"] (spRuleOk d)
  | 0 => fnok_false fun vs H Q E ⟨v, r, l, ws, n, _, _, h, _⟩ => by have := dep_pos r; omega
  | d + 1 => by
    have S := sc_is_rule
    have f_is_rule : Fn P w K mg base "is_rule" ["thing", "wires", "depth"] d (spRuleOk d) := ⟨f, fd, ok_isrule Fu T hm hk hb d, hm, hk, hb⟩
    refine Fu.ok S (fun vs H Q E h => ?_) (fun cdv A outer s H vs Q E hr h => ?_)
    · obtain ⟨v, r, l, ws, n, rfl, _⟩ := h
      rfl
    · obtain ⟨v, r, l, ws, n, rfl, ra, hd, hn, hn2, rok, hl, hw, q⟩ := h
      have hu := hu_of hr
      have dp := dep_pos r
      refine ⟨_, (pss_cons (ps_if (PW.pt (pw_or (pt_cmpR op_lt (pv 2) pe_int (nomark _)) (pw_or (pt_not (pt_val (pe_callB call_isinst (by rfl) T.n_isinstance PyProof.Rows.boot_isinstance (pa_cons (pv 0) (pa_cons (pe_bltn (v := .ty "tuple") (by rfl) T.n_tuple PyProof.Rows.boot_tuple rfl) pa_nil))))) (pw_or1 (pt_cmpR op_eq (pe_callB call_len_seq (by rfl) T.n_len PySem.boot_len (pa_cons (pv 0) pa_nil)) pe_int (nomark _)))))) (pss_one (ps_ret pe_bl)) pss_nil)
      (pss_cons (ps_set (i := 3) S.nd rfl (by first | exact Or.inl rfl | exact Or.inr rfl) (pe_ix ix_tup (pv 0) pe_int (fun _ _ => rfl)))
      (pss_cons (ps_if (PW.pt (pw_or (pt_not (pt_val (pe_callB call_isinst (by rfl) T.n_isinstance PyProof.Rows.boot_isinstance (pa_cons (pv 3) (pa_cons (pe_bltn (v := .ty "str") (by rfl) T.n_str PyProof.Rows.boot_str rfl) pa_nil))))) (pw_or1 (pt_cmpR op_ne (pe_parts T.tab (pe_glob (v := .ref TT) (by rfl) T.pARTS rfl) (pv 3) ⟨rfl, rfl, rfl, rfl⟩) (pe_callB call_len_seq (by rfl) T.n_len PySem.boot_len (pa_cons (pv 0) pa_nil)) (nomark _))))) (pss_one (ps_ret pe_bl)) pss_nil)
      (pss_cons (ps_if (pt_cmpR op_eq (pv 3) pe_str (nomark _)) (pss_one (ps_ret (pe_and (pe_callB call_isinst (by rfl) T.n_isinstance PyProof.Rows.boot_isinstance (pa_cons (pe_ix ix_tup (pv 0) pe_int (fun _ _ => rfl)) (pa_cons (pe_bltn (v := .ty "str") (by rfl) T.n_str PyProof.Rows.boot_str rfl) pa_nil))) (pe_one (pe_cmpR op_in_seq (pe_ix ix_tup (pv 0) pe_int (fun _ _ => rfl)) (pv 1) rfl))))) pss_nil)
      (pss_one (ps_ret (pe_callB (call_all rfl) (by rfl) T.n_all PyProof.Rows.boot_all (pa_cons (pe_lc (tgs := ["part"]) (cap := [("wires", 1), ("depth", 2)]) rfl ⟨rfl, rfl, rfl, rfl, rfl, rfl⟩ (pi_tup (pe_slice sl_tup (pv 0) (po_some pe_int) po_none)) (fun _ _ _ _ => (pg_name (i := 0) (show List.Nodup [("part" : Str), ("wires" : Str), ("depth" : Str)] by decide +kernel) rfl (by first | exact Or.inl rfl | exact Or.inr rfl))) (fun _ _ _ _ => pifs_nil) (fun _ _ _ _ => (pe_fn f_is_rule (hr.mono (by first | decide | omega)) (by rfl) (pa_cons (pv 0) (pa_cons (pv 1) (pa_cons (pe_op op_sub (pv 2) pe_int) pa_nil)))))) pa_nil)))))))), ?_⟩
      try dsimp only [cxOf, Cx.nox, Cx.wish]
      rw [show L2.start ["thing", "wires", "depth", "kind"] [v, V.ref l, V.int n] = [some v, some (.ref l), some (.int n), none] from rfl]
      obtain ⟨b, p, as, rfl, hb, hp, hp2, a2, a1, ways⟩ := rl_open ra rok
      have big : 1000 < sizeLine := by decide
      repeat walk_at "vc"
      refine ifF (decide_eq_false (by omega)) ?_
      repeat walk_at "vc"
      refine ⟨_, _, _, _, rfl, .tup hb, kit_same "tuple", ?_⟩
      refine ⟨_, rfl, iteF ?_⟩
      repeat walk_at "vc"
      refine ⟨b, _, rfl, .inr (SqT.of hb), ?_⟩
      repeat walk_at "vc"
      refine ifF (decide_eq_false fun h => by injection h with h; simp at h; omega) ?_
      repeat walk_at "vc"
      refine i_ixT hb (atI_nat (j := 0) rfl) ?_
      repeat walk_at "vc"
      refine ⟨_, _, _, _, rfl, TyOf.str p.1, kit_same "str", ?_⟩
      refine ⟨_, rfl, iteF ?_⟩
      repeat walk_at "vc"
      refine i_parts ?_
      repeat walk_at "vc"
      refine ⟨p, hp, rfl, ?_⟩
      repeat walk_at "vc"
      refine ⟨b, _, rfl, .inr (SqT.of hb), ?_⟩
      repeat walk_at "vc"
      refine ifF (by
        have e : V.int p.2 = V.int ((V.str p.1 :: as).length : Nat) := by rw [hp2]; simp
        rw [e]; simp) ?_
      repeat walk_at "vc"
      rcases ways with ⟨e, nm, rfl, hin⟩ | ⟨e, subs⟩
      · refine ifT (by rw [e]; decide +kernel) ?_
        repeat walk_at "vc"
        refine ⟨_, _, _, _, rfl, TyOf.str nm, kit_same "str", ?_⟩
        refine ⟨_, rfl, iteT ?_⟩
        repeat walk_at "vc"
        refine ⟨l, _, rfl, .inl (SqL.of hl), rfl, flat_strs ws, ?_⟩
        have z : inV (.str nm) (ws.map V.str) = true := inV_str.mpr hin
        show Q (.bl (inV (.str nm) (ws.map V.str))) H
        rw [z]
        exact q H (Same.refl H)
      · refine ifF (decide_eq_false fun h => by injection h with h; exact e h) ?_
        repeat walk_at "vc"
        refine i_comp (s_tup ?_)
        repeat walk_at "vc"
        refine ⟨b, _, rfl, SqT.of hb, ?_, fun c hc => ?_⟩
        · intro h
          have h1 := h.1
          rw [List.length_cons, six_one] at h1
          cases h1
        rw [cut_one]
        have S1 := fresh_same (o := .tup as) hc
        have hcT : upd H c (.tup as) c = some (.tup as) := upd_same
        generalize upd H c (.tup as) = H1 at S1 hcT
        refine ⟨c, rfl, ⟨_, SqT.of hcT⟩, fun D hD => ?_⟩
        refine comp_tup (xs := as) (fun m H' ys => Same H1 H' ∧ H' D = some (.lst ys) ∧ ys = (List.replicate m true).map V.bl) ⟨fresh_same hD, upd_same, rfl⟩ (fun m H' ys p => ⟨p.2.1, SqT.of (p.1 _ _ hcT)⟩) (fun m x H' ys e p => ?_) (fun H' ys p => ?_)
        · obtain ⟨Sm, hd', rfl⟩ := p
          have hm' : m < as.length := (List.getElem?_eq_some_iff.mp e).1
          obtain ⟨r', h1, h2, h3⟩ := subs x (List.mem_of_getElem? e)
          refine s_name ⟨by refine ⟨?_, ?_, ?_⟩ <;> first | rfl | trivial, i_yes (iteT ?_)⟩
          repeat walk_at "vc"
          refine ⟨x, r', l, ws, n - 1, rfl, h1.mono (Same.tups (S1.trans Sm)), by omega, by omega, by omega, h3, (S1.trans Sm) _ _ hl, hw, fun H2 S2 => ?_⟩
          refine NextC.mk (S2 _ _ hd') hm' (by rw [List.length_map, List.length_replicate]; omega) ⟨same_upd (Sm.trans S2) hD, upd_same, ?_⟩
          rw [List.replicate_succ', List.map_append]; rfl
        · obtain ⟨Sm, hd', rfl⟩ := p
          refine i_nil ⟨_, _, rfl, SqL.of hd', ?_⟩
          have e : (List.replicate as.length true).all id = true := by simp
          rw [e]
          exact q H' (S1.trans Sm)
end
set_option Elab.async false
set_option linter.all false
set_option maxRecDepth 100000
set_option maxHeartbeats 4000000

noncomputable def spIsNet : Sp := fun vs H Q _ => ∃ a li lg ins gvs gs, vs = [.ref a] ∧ NAt H a li lg ins gvs gs ∧ NetOk ins gs ∧ ∀ H', Same H H' → Q (.bl (decide (IsNet ins gs))) H'
section
variable {P : Program} {w : World} {K : PySem.W.Frag} {mg : Str → Option Value} {base : Heap} {TT : Addr}
theorem sc_is_net : FnScope ["thing", "inputs", "gates", "wires"] ["thing"] (defScope (top 17)) := ⟨rfl, rfl, rfl, by decide +kernel, rfl, by decide +kernel, by decide +kernel⟩
theorem ok_isnet {f : Addr} {fd : FuncData} (Fu : Fun K "is_net" "is_net" (top 17) f fd) (T : Txt K mg TT) (f_is_pair : Fn P w K mg base "is_pair" ["thing"] 1 spPair) (f_wires_of : Fn P w K mg base "wires_of" ["net"] 2 spWires)
    (f_are_unlike_names : Fn P w K mg base "are_unlike_names" ["things"] 2 spUnlike) (f_is_rule : Fn P w K mg base "is_rule" ["thing", "wires", "depth"] 10 (spRuleOk 10)) : FnOk P w K mg base CX0 11 f fd ["thing"] spIsNet := by
  have S := sc_is_net
  refine Fu.ok S (fun vs H Q E h => ?_) (fun cdv A outer s H vs Q E hr h => ?_)
  · obtain ⟨a, li, lg, ins, gvs, gs, rfl, _⟩ := h
    rfl
  · obtain ⟨a, li, lg, ins, gvs, gs, rfl, NA, ok, q⟩ := h
    obtain ⟨_, gMR⟩ := T.mRULES
    obtain ⟨_, gMI⟩ := T.mINPUTS
    obtain ⟨_, gMG⟩ := T.mGATES
    obtain ⟨ha, hi, hg, gts⟩ := id NA
    have hu := hu_of hr
    have big : 1000 < sizeLine := by decide
    have gl := paired_len gts
    have i4 := ok.i4
    have g7 := ok.g7
    refine ⟨_, (pss_cons (ps_if (PW.pt (pw_or (pt_not (pt_val (pe_fn f_is_pair (hr.mono (by first | decide | omega)) (by rfl) (pa_cons (pv 0) pa_nil)))) (pw_or (pt_not (pt_val (pe_callB call_isinst (by rfl) T.n_isinstance PyProof.Rows.boot_isinstance (pa_cons (pe_ix ix_tup (pv 0) pe_int (fun _ _ => rfl)) (pa_cons (pe_bltn (v := .ty "list") (by rfl) T.n_list PyProof.Rows.boot_list rfl) pa_nil))))) (pw_or1 (pt_not (pt_val (pe_callB call_isinst (by rfl) T.n_isinstance PyProof.Rows.boot_isinstance (pa_cons (pe_ix ix_tup (pv 0) pe_int (fun _ _ => rfl)) (pa_cons (pe_bltn (v := .ty "list") (by rfl) T.n_list PyProof.Rows.boot_list rfl) pa_nil))))))))) (pss_one (ps_ret pe_bl)) pss_nil)
      (pss_cons (ps_set (i := 1) S.nd rfl (by first | exact Or.inl rfl | exact Or.inr rfl) (pe_ix ix_tup (pv 0) pe_int (fun _ _ => rfl)))
      (pss_cons (ps_set (i := 2) S.nd rfl (by first | exact Or.inl rfl | exact Or.inr rfl) (pe_ix ix_tup (pv 0) pe_int (fun _ _ => rfl)))
      (pss_cons (ps_if (PW.pt (pw_or (pt_cmpR op_gt (pe_callB call_len_seq (by rfl) T.n_len PySem.boot_len (pa_cons (pv 1) pa_nil)) (pe_glob (v := .int 4) (by rfl) gMI ⟨_, rfl⟩) (nomark _)) (pw_or1 (pt_not (pt_chain op_le op_le pe_int (pe_callB call_len_seq (by rfl) T.n_len PySem.boot_len (pa_cons (pv 2) pa_nil)) (pe_glob (v := .int 7) (by rfl) gMG ⟨_, rfl⟩)))))) (pss_one (ps_ret pe_bl)) pss_nil)
      (pss_cons (ps_if (pt_not (pt_val (pe_callB (call_all rfl) (by rfl) T.n_all PyProof.Rows.boot_all (pa_cons (pe_lc (tgs := ["gate"]) (cap := []) rfl ⟨rfl, rfl, rfl, rfl, rfl, rfl⟩ (pi_list (pv 2)) (fun _ _ _ _ => (pg_name (i := 0) (show List.Nodup [("gate" : Str)] by decide +kernel) rfl (by first | exact Or.inl rfl | exact Or.inr rfl))) (fun _ _ _ _ => pifs_nil) (fun _ _ _ _ => (pe_fn f_is_pair (hr.mono (by first | decide | omega)) (by rfl) (pa_cons (pv 0) pa_nil)))) pa_nil)))) (pss_one (ps_ret pe_bl)) pss_nil)
      (pss_cons (ps_set (i := 3) S.nd rfl (by first | exact Or.inl rfl | exact Or.inr rfl) (pe_fn f_wires_of (hr.mono (by first | decide | omega)) (by rfl) (pa_cons (pv 0) pa_nil)))
      (pss_cons (ps_if (pt_not (pt_val (pe_fn f_are_unlike_names (hr.mono (by first | decide | omega)) (by rfl) (pa_cons (pv 3) pa_nil)))) (pss_one (ps_ret pe_bl)) pss_nil)
      (pss_one (ps_ret (pe_callB (call_all rfl) (by rfl) T.n_all PyProof.Rows.boot_all (pa_cons (pe_lc (tgs := ["gate"]) (cap := [("wires", 3)]) rfl ⟨rfl, rfl, rfl, rfl, rfl, rfl⟩ (pi_list (pv 2)) (fun _ _ _ _ => (pg_name (i := 0) (show List.Nodup [("gate" : Str), ("wires" : Str)] by decide +kernel) rfl (by first | exact Or.inl rfl | exact Or.inr rfl))) (fun _ _ _ _ => pifs_nil) (fun _ _ _ _ => (pe_fn f_is_rule (hr.mono (by first | decide | omega)) (by rfl) (pa_cons (pe_ix (ix_tupK (K := K) rfl) (pv 0) pe_int (fun _ _ => rfl)) (pa_cons (pv 1) (pa_cons (pe_glob (v := .int 10) (by rfl) gMR ⟨_, rfl⟩) pa_nil)))))) pa_nil))))))))))), ?_⟩
    try dsimp only [cxOf, Cx.nox, Cx.wish]
    rw [show L2.start ["thing", "inputs", "gates", "wires"] [V.ref a] = [some (.ref a), none, none, none] from rfl]
    repeat walk_at "vc"
    refine ⟨a, _, rfl, ha, by simp, ?_⟩
    refine ⟨_, rfl, ifF rfl ?_⟩
    repeat walk_at "vc"
    refine ⟨_, _, _, _, rfl, .lst hi, kit_same "list", ?_⟩
    refine ⟨_, rfl, iteF ?_⟩
    repeat walk_at "vc"
    refine ⟨_, _, _, _, rfl, .lst hg, kit_same "list", ?_⟩
    refine ⟨_, rfl, iteF ?_⟩
    repeat walk_at "vc"
    have no : ∀ {H'}, Same H H' → ¬ IsNet ins gs → Q (.bl false) H' := fun S' c => by
      have z := q _ S'
      rw [decide_eq_false c] at z
      exact z
    by_cases c1 : ins.length ≤ 4
    · refine ifF (decide_eq_false (by rw [List.length_map]; omega)) ?_
      repeat walk_at "vc"
      refine i_chain ?_
      repeat walk_at "vc"
      by_cases c2 : 1 ≤ gs.length
      · refine ifT (decide_eq_true (by omega)) ?_
        repeat walk_at "vc"
        by_cases c3 : gs.length ≤ 7
        · refine ifF (by rw [decide_eq_true (show (gvs.length : Int) ≤ 7 by omega)]; rfl) ?_
          repeat walk_at "vc"
          refine i_comp (s_list (i_var rfl ⟨lg, rfl, ⟨_, SqL.of hg⟩, fun D hD => ?_⟩))
          refine comp_list (xs := gvs) (fun m H' ys => Same H H' ∧ H' D = some (.lst ys) ∧ ys = (List.replicate m true).map V.bl) ⟨fresh_same hD, upd_same, rfl⟩ (fun m H' ys p => ⟨p.2.1, SqL.of (p.1 _ _ hg)⟩) (fun m x H' ys e p => ?_) (fun H' ys p => ?_)
          · obtain ⟨Sm, hd, rfl⟩ := p
            have hn : m < gvs.length := (List.getElem?_eq_some_iff.mp e).1
            obtain ⟨g, e', b, rv, rfl, hb, hrr⟩ := paired_at gts m x e
            refine s_name ⟨trivial, i_yes (iteT ?_)⟩
            refine i_call (i_cons (i_var rfl (i_nil ⟨b, _, rfl, Sm _ _ hb, by simp, ?_⟩)))
            exact NextC.mk hd hn (by rw [List.length_map, List.length_replicate]; omega) ⟨same_upd Sm hD, upd_same, by rw [List.replicate_succ', List.map_append]; rfl⟩
          · obtain ⟨Sm, hd, rfl⟩ := p
            refine i_nil ⟨_, _, rfl, SqL.of hd, ?_⟩
            have e : (List.replicate gvs.length true).all id = true := by simp
            rw [e]
            refine ⟨_, rfl, iteF ?_⟩
            repeat walk_at "vc"
            refine ⟨a, li, lg, ins, gvs, gs, rfl, NA.same Sm, ok, fun lw H2 S2 nw hw => ?_⟩
            repeat walk_at "vc"
            have wl : (wiresN ins gs).length ≤ 100 := by unfold wiresN; rw [List.length_append, List.length_map]; omega
            refine ⟨lw, wiresN ins gs, rfl, hw, wl, ok.low, fun H3 S3 => ?_⟩
            refine ⟨_, rfl, ?_⟩
            have S03 := (Sm.trans S2).trans S3
            by_cases c4 : (wiresN ins gs).Nodup
            · refine ifF (by rw [decide_eq_true c4]; rfl) ?_
              repeat walk_at "vc"
              have hg3 := S03 _ _ hg
              have hw3 := S3 _ _ hw
              refine i_comp (s_list (i_var rfl ⟨lg, rfl, ⟨_, SqL.of hg3⟩, fun D2 hD2 => ?_⟩))
              refine comp_list (xs := gvs) (fun m H' ys => Same H3 H' ∧ H' D2 = some (.lst ys) ∧ ys = (List.replicate m true).map V.bl) ⟨fresh_same hD2, upd_same, rfl⟩ (fun m H' ys p => ⟨p.2.1, SqL.of (p.1 _ _ hg3)⟩) (fun m x H' ys e p => ?_) (fun H' ys p => ?_)
              · obtain ⟨Sm, hd, rfl⟩ := p
                have hn : m < gvs.length := (List.getElem?_eq_some_iff.mp e).1
                obtain ⟨g, e', b, rv, rfl, hb, hrr⟩ := paired_at gts m x e
                obtain ⟨r1, r2⟩ := ok.rules g (List.mem_of_getElem? e')
                have S0m := S03.trans Sm
                have hb' := S0m _ _ hb
                refine s_name ⟨by refine ⟨?_, ?_⟩ <;> first | rfl | trivial, i_yes (iteT ?_)⟩
                repeat walk_at "vc"
                refine ⟨rv, g.2, lw, wiresN ins gs, 10, rfl, hrr.mono (Same.tups S0m), r2, by omega, by omega, r1, Sm _ _ hw3, wl, fun H2 S2 => ?_⟩
                exact NextC.mk (S2 _ _ hd) hn (by rw [List.length_map, List.length_replicate]; omega) ⟨same_upd (Sm.trans S2) hD2, upd_same, by rw [List.replicate_succ', List.map_append]; rfl⟩
              · obtain ⟨Sm, hd, rfl⟩ := p
                refine i_nil ⟨_, _, rfl, SqL.of hd, ?_⟩
                have e : (List.replicate gvs.length true).all id = true := by simp
                rw [e]
                have z := q _ (S03.trans Sm)
                rw [decide_eq_true (show IsNet ins gs from ⟨c1, c2, c3, c4⟩)] at z
                exact z
            · refine ifT (by rw [decide_eq_false c4]; rfl) ?_
              repeat walk_at "vc"
              exact no S03 fun h => c4 h.2.2.2
        · refine ifT (by rw [decide_eq_false (show ¬ (gvs.length : Int) ≤ 7 by omega)]; rfl) ?_
          repeat walk_at "vc"
          exact no (Same.refl H) fun h => c3 h.2.2.1
      · refine ifF (decide_eq_false (by omega)) ?_
        repeat walk_at "vc"
        exact no (Same.refl H) fun h => c2 h.2.1
    · refine ifT (decide_eq_true (by rw [List.length_map]; omega)) ?_
      repeat walk_at "vc"
      exact no (Same.refl H) fun h => c1 h.1
end
set_option Elab.async false
set_option linter.all false
set_option maxRecDepth 100000
set_option maxHeartbeats 4000000

section
variable {P : Program} {w : World} {K : PySem.W.Frag} {mg : Str → Option Value} {base : Heap} {TT : Addr}
end
set_option Elab.async false
set_option linter.all false
set_option maxRecDepth 100000
set_option maxHeartbeats 4000000

theorem upd_pair {H H' : Hp} {p : Addr} {o : HO} (h : H p = none) (e : upd H p o = H') : Same H H' ∧ H' p = some o := by
  subst e
  exact ⟨fresh_same h, upd_same⟩
section
variable {P : Program} {w : World} {K : PySem.W.Frag} {mg : Str → Option Value} {base : Heap} {TT : Addr}
end
set_option Elab.async false
set_option linter.all false
set_option maxRecDepth 100000
set_option maxHeartbeats 4000000

noncomputable def spHeld : Sp := fun vs H Q _ => ∃ v1 v2 v3 r1 r2 r3, vs = [v1, v2, v3] ∧ RAt H v1 r1 ∧ RAt H v2 r2 ∧ RAt H v3 r3 ∧ ∀ v H', Same H H' → RAt H' v (.orr (.an r1 r2) (.an r3 (.orr r1 r2))) → Q v H'
section
variable {P : Program} {w : World} {K : PySem.W.Frag} {mg : Str → Option Value} {base : Heap} {TT : Addr}
theorem sc_law_held : FnScope ["one", "other", "own"] ["one", "other", "own"] (defScope (top 36)) := ⟨rfl, rfl, rfl, by decide +kernel, rfl, by decide +kernel, by decide +kernel⟩
theorem ok_held {f : Addr} {fd : FuncData} (Fu : Fun K "_law_held" "_law_held" (top 36) f fd) (T : Txt K mg TT) : FnOk P w K mg base CX0 1 f fd ["one", "other", "own"] spHeld := by
  have S := sc_law_held
  refine Fu.ok S (fun vs H Q E h => ?_) (fun cdv A outer s H vs Q E hr h => ?_)
  · obtain ⟨v1, v2, v3, r1, r2, r3, rfl, _⟩ := h
    rfl
  · obtain ⟨v1, v2, v3, r1, r2, r3, rfl, h1, h2, h3, k⟩ := h
    refine ⟨_, (pss_one (ps_ret (pe_tup (pa_cons pe_str (pa_cons (pe_tup (pa_cons pe_str (pa_cons (pv 0) (pa_cons (pv 1) pa_nil)))) (pa_cons (pe_tup (pa_cons pe_str (pa_cons (pv 2) (pa_cons (pe_tup (pa_cons pe_str (pa_cons (pv 0) (pa_cons (pv 1) pa_nil)))) pa_nil)))) pa_nil)))))), ?_⟩
    try dsimp only [cxOf, Cx.nox, Cx.wish]
    rw [show L2.start ["one", "other", "own"] [v1, v2, v3] = [some v1, some v2, some v3] from rfl]
    repeat walk_at "vc"
    refine ⟨by simp [sizeLine], fun p1 hp1 => ?_⟩
    have S1 := fresh_same (o := .tup [.str "and", v1, v2]) hp1
    have q1 : upd H p1 (.tup [.str "and", v1, v2]) p1 = some (.tup [.str "and", v1, v2]) := upd_same
    generalize upd H p1 (.tup [.str "and", v1, v2]) = H1 at *
    repeat walk_at "vc"
    refine ⟨by simp [sizeLine], fun p2 hp2 => ?_⟩
    have S2 := fresh_same (o := .tup [.str "or", v1, v2]) hp2
    have q2 : upd H1 p2 (.tup [.str "or", v1, v2]) p2 = some (.tup [.str "or", v1, v2]) := upd_same
    generalize upd H1 p2 (.tup [.str "or", v1, v2]) = H2 at *
    repeat walk_at "vc"
    refine ⟨by simp [sizeLine], fun p3 hp3 => ?_⟩
    have S3 := fresh_same (o := .tup [.str "and", v3, .ref p2]) hp3
    have q3 : upd H2 p3 (.tup [.str "and", v3, .ref p2]) p3 = some (.tup [.str "and", v3, .ref p2]) := upd_same
    generalize upd H2 p3 (.tup [.str "and", v3, .ref p2]) = H3 at *
    repeat walk_at "vc"
    refine ⟨by simp [sizeLine], fun p4 hp4 => ?_⟩
    have S4 := fresh_same (o := .tup [.str "or", .ref p1, .ref p3]) hp4
    have S14 := S1.trans (S2.trans (S3.trans S4))
    have m1 := h1.mono (Same.tups S14)
    have m2 := h2.mono (Same.tups S14)
    have m3 := h3.mono (Same.tups S14)
    exact k _ _ S14 (.orr upd_same (.an ((S2.trans (S3.trans S4)) _ _ q1) m1 m2) (.an (S4 _ _ q3) m3 (.orr ((S3.trans S4) _ _ q2) m1 m2)))
end
end K2
set_option Elab.async false
set_option linter.all false
set_option maxRecDepth 100000
set_option maxHeartbeats 4000000
namespace K2
open PySem L2
local macro_rules | `(tactic| walk_at "vc") => `(tactic| first
  | ((refine' (?zz : (?zA → ?zG) → ?zA → ?zG) ?zr ?_); (case zr => with_reducible exact s_seqT); (case zz => exact fun _ q => q); intro D') | ((refine' (?zz : (?zA → ?zG) → ?zA → ?zG) ?zr ?_); (case zr => with_reducible exact s_nameT); (case zz => exact fun _ q => q); intro σ') | ((refine' (?zz : (?zA → ?zG) → ?zA → ?zG) ?zr ?_); (case zr => with_reducible first | exact s_asg | exact s_drop | exact s_ret | exact s_if | exact s_sub | exact s_next | exact i_c | exact i_op | exact i_test | exact i_tB | exact i_and | exact i_or | exact i_not | exact i_andV | exact i_orV | exact i_notV | exact i_ifE | exact i_nil | exact i_cons | exact i_cb | exact i_tup | exact i_lst | exact i_bm | exact i_sl | exact i_nopart | exact i_part | exact s_for | exact s_rng1 | exact s_list | exact s_str | exact i_dget | exact i_yes | exact i_un); (case zz => exact fun _ q => q))
  | ((with_reducible refine' i_var ?hv ?_); (case hv => exact rfl))   | (with_reducible first | refine i_rI0 ?_ | refine i_call ?_ | refine s_strI ?_ | refine iteF ?_ | refine iteT ?_ | refine i_rU ?_)
  | ((with_reducible show ∃ i, V.int _ = V.int i ∧ _); (refine ⟨_, rfl, ?_⟩)) | ((with_reducible show ∃ k, V.bl _ = V.bl k ∧ _); (refine ⟨_, rfl, ?_⟩)) | ((with_reducible show (∃ i, [V.bl _] = [V.int i] ∧ _) ∨ _); (refine Or.inr ⟨_, rfl, ?_⟩))
  | ((with_reducible refine' i_ixL ?ha ?hb ?_); (case ha => exact SqL.of (by assumption)); (case hb => exact rfl)) | ((with_reducible refine' i_ixT ?ha ?hb ?_); (case ha => assumption); (case hb => exact rfl))
  | ((with_reducible show ∃ p _, [V.ref _] = [V.ref p] ∧ (SqL _ _ _ _ ∨ SqT _ _ _ _) ∧ _); (refine' ⟨_, _, rfl, Or.inl (SqL.of ?ha), ?_⟩); (case ha => assumption)) | ((with_reducible refine' s_setL ?ha ?hb ?_); (case ha => assumption); (case hb => exact rfl))
  | ((with_reducible refine' i_eq ?ha ?_); (case ha => exact rfl)) | ((with_reducible refine' i_ne ?ha ?_); (case ha => exact rfl))
  | ((with_reducible show ∃ z, V.str _ = V.str z ∧ _); (refine ⟨_, rfl, ?_⟩)))
section
variable {P : Program} {w : World} {K : PySem.W.Frag} {mg : Str → Option Value} {base : Heap} {TT : Addr}
theorem sc_law_draw : FnScope ["deck", "many", "pool", "found", "number"] ["deck", "many"] (defScope (top 33)) := ⟨rfl, rfl, rfl, by decide +kernel, rfl, by decide +kernel, by decide +kernel⟩
theorem ok_draw {f : Addr} {fd : FuncData} (Fu : Fun K "_law_draw" "_law_draw" (top 33) f fd) (T : Txt K mg TT) : FnOk P w K mg base CX0 1 f fd ["deck", "many"] spDraw := by
  have S := sc_law_draw
  refine Fu.ok S (fun vs H Q E h => ?_) (fun cdv A outer s H vs Q E hr h => ?_)
  · obtain ⟨D, m, rfl, _⟩ := h
    rfl
  · obtain ⟨D, m, rfl, DA, h1, h2, k⟩ := h
    refine ⟨_, (pss_cons (ps_set (i := 2) S.nd rfl (by first | exact Or.inl rfl | exact Or.inr rfl) (pe_ix ix_list (pe_ix ix_list (pv 0) pe_int (fun _ _ => rfl)) (pe_op op_mod (pe_ix ix_list (pv 0) pe_int (fun _ _ => rfl)) (pe_callB call_len_seq (by rfl) T.n_len PySem.boot_len (pa_cons (pe_ix ix_list (pv 0) pe_int (fun _ _ => rfl)) pa_nil))) (fun _ _ => rfl)))
      (pss_cons (ps_asg (pe_op op_add (pe_ix ix_list (pv 0) pe_int (fun _ _ => rfl)) pe_int) (pg_sub (pv 0) pe_int set_list))
      (pss_cons (ps_if (PW.pt (pw_and (pt_cmpR op_eq (pe_ix ix_list (pv 2) pe_int (fun _ _ => rfl)) pe_int (nomark _)) (pw_and1 (pt_cmpR op_gt (pe_ix ix_list (pv 2) pe_int (fun _ _ => rfl)) pe_int (nomark _))))) (pss_cons (ps_set (i := 3) S.nd rfl (by first | exact Or.inl rfl | exact Or.inr rfl) (pe_op op_mod (pe_ix ix_list (pv 2) pe_int (fun _ _ => rfl)) (pv 1)))
      (pss_cons (ps_asg (pe_op op_fdiv (pe_ix ix_list (pv 2) pe_int (fun _ _ => rfl)) (pv 1)) (pg_sub (pv 2) pe_int set_list))
      (pss_one (ps_ret (pv 3))))) pss_nil)
      (pss_cons (ps_asg (pe_op op_add (pe_ix ix_list (pv 2) pe_int (fun _ _ => rfl)) pe_int) (pg_sub (pv 2) pe_int set_list))
      (pss_cons (ps_set (i := 4) S.nd rfl (by first | exact Or.inl rfl | exact Or.inr rfl) (pe_op op_mod (pe_op op_add (pe_op op_mod (pe_ix ix_list (pv 2) pe_int (fun _ _ => rfl)) pe_int) (pe_op op_mul pe_int (pe_ix ix_list (pv 2) pe_int (fun _ _ => rfl)))) pe_int))
      (pss_cons (ps_set (i := 4) S.nd rfl (by first | exact Or.inl rfl | exact Or.inr rfl) (pe_op op_mod (pe_op op_mul (pv 4) (pv 4)) pe_int))
      (pss_cons (ps_set (i := 4) S.nd rfl (by first | exact Or.inl rfl | exact Or.inr rfl) (pe_op op_mod (pe_op op_mul (pv 4) (pe_op op_add (pv 4) pe_int)) pe_int))
      (pss_one (ps_ret (pe_op op_mod (pe_op op_fdiv (pv 4) pe_int) (pv 1))))))))))), ?_⟩
    dsimp only [cxOf, Cx.nox, Cx.wish]
    rw [show L2.start ["deck", "many", "pool", "found", "number"] [.ref D.d, .int m] = [some (.ref D.d), some (.int m), none, none, none] from rfl]
    obtain ⟨⟨n, hd⟩, hp, ne, few, pools⟩ := id DA
    have lq : (0 : Int) < ((D.qs.map V.ref).length : Int) := by
      rw [List.length_map]
      cases e : D.qs with
      | nil => exact absurd e ne
      | cons a r => simp
    repeat (first | walk_at "vc" | with_reducible refine i_comp ?_)
    refine i_rI lq ?_
    obtain ⟨q, hq, eq⟩ := at_mod ne n
    refine i_ixL (SqL.of hp) eq ?_
    obtain ⟨a, b, c, hq3⟩ := pools q hq
    have ndq : q ≠ D.d := ne_of hq3 hd int_ne_ref
    repeat (first | walk_at "vc" | with_reducible refine i_comp ?_)
    generalize hH1 : upd H D.d (HO.lst ([V.ref D.p, V.int n].set (Int.toNat 1) (V.int (n + 1)))) = H1
    have hd1 : H1 D.d = some (.lst [.ref D.p, .int (n + 1)]) := by rw [← hH1]; exact upd_same
    have hq1 : H1 q = some (.lst [.int a, .int b, .int c]) := by rw [← hH1, upd_ne ndq]; exact hq3
    have o1 : ∀ b, b ≠ D.d → H1 b = H b := fun b hb => by rw [← hH1, upd_ne hb]
    have kp : ∀ (a' b' c' : Int), Kp D H (upd H1 q (.lst [.int a', .int b', .int c'])) := fun a' b' c' =>
      kp_mk DA hq (fun b h1 h2 => by rw [upd_ne h2, o1 b h1]) (by rw [upd_ne ndq.symm]; exact hd1) upd_same
    clear hH1
    have rest : tSeq (tAsg (tOp (rI0 fun i j => V.int (i + j)) (tOp (rIxL K) (tVar 2) (tC (V.int 2))) (tC (V.int 1))) (gSub (tVar 2) (tC (V.int 2)) rSetL))
        (tSeq (tAsg (tOp (rI (fun x j => 0 < j) fun i j => V.int (i % j)) (tOp (rI0 fun i j => V.int (i + j)) (tOp (rI (fun x j => 0 < j) fun i j => V.int (i % j)) (tOp (rIxL K) (tVar 2) (tC (V.int 0))) (tC (V.int 99999999977))) (tOp (rI CMul fun i j => V.int (i * j)) (tC (V.int 700001)) (tOp (rIxL K) (tVar 2) (tC (V.int 2))))) (tC (V.int 99999999947))) (gName 4))
        (tSeq (tAsg (tOp (rI (fun x j => 0 < j) fun i j => V.int (i % j)) (tOp (rI CMul fun i j => V.int (i * j)) (tVar 4) (tVar 4)) (tC (V.int 99999999821))) (gName 4))
        (tSeq (tAsg (tOp (rI (fun x j => 0 < j) fun i j => V.int (i % j)) (tOp (rI CMul fun i j => V.int (i * j)) (tVar 4) (tOp (rI0 fun i j => V.int (i + j)) (tVar 4) (tC (V.int 19)))) (tC (V.int 9999999967))) (gName 4))
        (tRet (tOp (rI (fun x j => 0 < j) fun i j => V.int (i % j)) (tOp (rI CDiv fun i j => V.int (i / j)) (tVar 4) (tC (V.int 13))) (tVar 1))))))
        { nx := fun _ H' => Q .non H', rt := Q } [some (.ref D.d), some (.int m), some (.ref q), none, none] H1 := by
      repeat (first | walk_at "vc" | with_reducible refine i_comp ?_)
      have hq2 : upd H1 q (HO.lst ([V.int a, V.int b, V.int c].set (Int.toNat 2) (V.int (c + 1)))) q = some (.lst [.int a, .int b, .int (c + 1)]) := upd_same
      repeat (first | walk_at "vc" | with_reducible refine i_comp ?_)
      refine i_rI (by decide) ?_
      repeat (first | walk_at "vc" | with_reducible refine i_comp ?_)
      refine i_rI (.inl ⟨by decide, by decide⟩) ?_
      repeat (first | walk_at "vc" | with_reducible refine i_comp ?_)
      refine i_rI (by decide) ?_
      repeat (first | walk_at "vc" | with_reducible refine i_comp ?_)
      generalize hn1 : (a % 99999999977 + 700001 * (c + 1)) % 99999999947 = n1
      have b1 : 0 ≤ n1 := by rw [← hn1]; exact Int.emod_nonneg _ (by decide)
      have b2 : n1 < 99999999947 := by rw [← hn1]; exact Int.emod_lt_of_pos _ (by decide)
      refine i_rI (small_mul b1 (by omega) _) ?_
      repeat (first | walk_at "vc" | with_reducible refine i_comp ?_)
      refine i_rI (by decide) ?_
      repeat (first | walk_at "vc" | with_reducible refine i_comp ?_)
      generalize hn2 : n1 * n1 % 99999999821 = n2
      have b3 : 0 ≤ n2 := by rw [← hn2]; exact Int.emod_nonneg _ (by decide)
      have b4 : n2 < 99999999821 := by rw [← hn2]; exact Int.emod_lt_of_pos _ (by decide)
      refine i_rI (small_mul b3 (by omega) _) ?_
      repeat (first | walk_at "vc" | with_reducible refine i_comp ?_)
      refine i_rI (by decide) ?_
      repeat (first | walk_at "vc" | with_reducible refine i_comp ?_)
      refine i_rI ⟨by decide, by decide⟩ ?_
      repeat (first | walk_at "vc" | with_reducible refine i_comp ?_)
      refine i_rI (show (0 : Int) < m by omega) ?_
      exact k _ _ (Int.emod_nonneg _ (by omega)) (Int.emod_lt_of_pos _ (by omega)) (kp _ _ _)
    repeat (first | walk_at "vc" | with_reducible refine i_comp ?_)
    refine ite2 (fun _ => ?_) (fun _ => ?_)
    · repeat (first | walk_at "vc" | with_reducible refine i_comp ?_)
      refine ite2 (fun _ => ?_) (fun _ => ?_)
      · repeat (first | walk_at "vc" | with_reducible refine i_comp ?_)
        refine i_rI (show (0 : Int) < m by omega) ?_
        repeat (first | walk_at "vc" | with_reducible refine i_comp ?_)
        refine i_rI ⟨by omega, by omega⟩ ?_
        repeat (first | walk_at "vc" | with_reducible refine i_comp ?_)
        exact k _ _ (Int.emod_nonneg _ (by omega)) (Int.emod_lt_of_pos _ (by omega)) (kp _ _ _)
      · first | exact rest | exact iteF rest
    · first | exact rest | exact iteF rest
end
set_option Elab.async false
set_option linter.all false
set_option maxRecDepth 100000
set_option maxHeartbeats 4000000

theorem Kp.fresh {D : Dk} {H H' : Hp} {L : Addr} {o : HO} (DA : D.At H) (hL : H L = none) (k : Kp D H H') : Kp D H (upd H' L o) := by
  obtain ⟨⟨n0, hd0⟩, hp0, _, _, pools0⟩ := DA
  obtain ⟨⟨n, hd⟩, hp, ne, few, pools⟩ := k.dk
  refine ⟨fun b u e nb => by rw [upd_ne (ne_of_none e hL)]; exact k.old b u e nb, ⟨⟨n, by rw [upd_ne (ne_of_none hd0 hL)]; exact hd⟩, by rw [upd_ne (ne_of_none hp0 hL)]; exact hp, ne, few, fun q hq => ?_⟩⟩
  obtain ⟨a, b, c, e⟩ := pools q hq
  obtain ⟨a0, b0, c0, e0⟩ := pools0 q hq
  exact ⟨a, b, c, by rw [upd_ne (ne_of_none e0 hL)]; exact e⟩
theorem Kp.new {D : Dk} {H H' : Hp} {p : Addr} {o : HO} (k : Kp D H H') (hp : H' p = none) : Kp D H (upd H' p o) := k.trans (Kp.of k.dk (fresh_same hp))
theorem comp_letters {D : Dk} {t : Str} {n : Nat} {H1 : Hp} {L : Addr} {te : TE} {σ0 : St} {QD : Hp → Prop} (DA : D.At H1) (hL : H1 L = none) (hn : n ≤ 1000) (hwk : ∀ x, wk σ0 (σ0.set 0 (some x)))
    (hstep : ∀ (i : Int) H' (Q : VK), D.At H' → (∀ c H'', c ∈ t.cps.toList → Kp D H' H'' → Q (.str ⟨#[c]⟩) H'') → te (σ0.set 0 (some (.int i))) H' Q)
    (hd : ∀ H' (zs : List Str), zs.length = n → (∀ z ∈ zs, ∃ c ∈ t.cps.toList, z = ⟨#[c]⟩) → Kp D H1 H' → H' L = some (.lst (zs.map V.str)) → QD H') :
    ∃ W : Nat → Nat → Hp → List V → Prop, (∃ m, W 0 m (upd H1 L (.lst [])) []) ∧ ∀ i m H ys, W i m H ys → H L = some (.lst ys) ∧ (((Itr 0 n).stop i H ∧ QD H) ∨ ((Itr 0 n).go i H ∧ ∀ x H', (Itr 0 n).yld i H x H' → gName 0 x σ0 H' fun σ2 H2 => wk σ0 σ2 ∧ tYes σ2 H2 fun b H3 =>
      if b = true then te σ2 H3 fun v H4 => H4 L = some (.lst ys) ∧ ys.length < sizeLine ∧ ∃ m', m' < m ∧ W (i + 1) m' (upd H4 L (.lst (ys ++ [v]))) (ys ++ [v]) else ∃ m', m' < m ∧ W (i + 1) m' H3 ys)) := by
  have big : 1000 < sizeLine := by decide
  refine comp_range (fun n H' ys => Kp D H1 H' ∧ H' L = some (.lst ys) ∧ ∃ zs : List Str, ys = zs.map V.str ∧ zs.length = n ∧ ∀ z ∈ zs, ∃ c ∈ t.cps.toList, z = ⟨#[c]⟩) ⟨Kp.fresh DA hL (Kp.of DA (Same.refl _)), upd_same, [], rfl, rfl, fun z h => nomatch h⟩ (fun i H ys p => p.2.1) (fun i H ys hi p => ?_) (fun H ys p => ?_)
  · obtain ⟨kp, hl, zs, rfl, hz, hc⟩ := p
    refine s_name ⟨hwk _, i_yes (iteT ?_)⟩
    refine hstep _ H _ kp.dk fun c H'' hc' k2 => ?_
    refine NextC.mk (k2.strs kp.dk hl) hi (by rw [List.length_map]; omega) ⟨Kp.fresh DA hL (kp.trans k2), upd_same, zs ++ [⟨#[c]⟩], by simp, by simp [hz], fun z hz' => ?_⟩
    rcases List.mem_append.mp hz' with h | h
    · exact hc z h
    · rw [List.mem_singleton] at h
      exact ⟨c, hc', h⟩
  · obtain ⟨kp, hl, zs, rfl, hz, hc⟩ := p
    exact hd H zs hz hc kp hl
theorem letters_flat {T : List Nat} : ∀ (zs : List Str), (∀ z ∈ zs, ∃ c ∈ T, z = ⟨#[c]⟩) → ((zs.map (·.cps.toList)).flatten).length = zs.length ∧ (∀ c ∈ (zs.map (·.cps.toList)).flatten, c ∈ T) ∧ (zs.map (·.length)).sum = zs.length
  | [], _ => ⟨rfl, fun c h => (List.not_mem_nil h).elim, rfl⟩
  | z :: zs, h => by
    obtain ⟨c, hc, rfl⟩ := h z (by simp)
    obtain ⟨e1, e2, e3⟩ := letters_flat zs fun z hz => h z (List.mem_cons_of_mem _ hz)
    refine ⟨?_, fun d hd => ?_, ?_⟩
    · simp only [List.map_cons, List.flatten_cons, List.length_append, e1, List.length_cons]
      show (#[c] : Array Nat).toList.length + zs.length = _
      simp
      omega
    · simp only [List.map_cons, List.flatten_cons, List.mem_append] at hd
      rcases hd with hd | hd
      · have : d = c := by simpa using hd
        rw [this]; exact hc
      · exact e2 d hd
    · simp only [List.map_cons, List.sum_cons, List.length_cons, e3]
      show (#[c] : Array Nat).size + zs.length = _
      simp
      omega
theorem join_size {T : List Nat} {zs : List Str} (h : ∀ z ∈ zs, ∃ c ∈ T, z = ⟨#[c]⟩) : (Txt.join Str.empty zs).cps.size = zs.length ∧ ∀ c ∈ (Txt.join Str.empty zs).cps.toList, c ∈ T := by
  obtain ⟨e1, e2, _⟩ := letters_flat zs h
  rw [← Array.length_toList, glued_nil]
  exact ⟨e1, e2⟩
noncomputable def spStanding : Sp := fun vs H Q _ => ∃ (D : Dk) (a li lg : Addr) (ins : List Str) (gvs : List V) (gs : List (Str × Rl)), vs = [.ref D.d, .ref a] ∧ D.At H ∧ NAt H a li lg ins gvs gs ∧ NetOk ins gs ∧ ∀ z H', StOk (wiresN ins gs).length z → Kp D H H' → Q (.str z) H'
noncomputable def spRule (d : Nat) : Sp := fun vs H Q _ => ∃ (D : Dk) (l : Addr) (ns : List Str) (m : Nat), vs = [.ref D.d, .ref l, .int m] ∧ D.At H ∧ H l = some (.lst (ns.map V.str)) ∧ ns ≠ [] ∧ ns.length ≤ 1000 ∧ 1 ≤ m ∧ m ≤ d ∧
  ∀ v r H', RAt H' v r → r.ok ns → r.dep ≤ m → Kp D H H' → Q v H'
theorem atI_str {t : Str} {r : Int} (h0 : 0 ≤ r) (h1 : r < t.cps.size) : ∃ c, atI t.cps.toList r = some c ∧ c ∈ t.cps.toList := by
  have hr : r.toNat < t.cps.toList.length := by rw [Array.length_toList]; omega
  refine ⟨t.cps.toList[r.toNat], ?_, List.getElem_mem hr⟩
  have e : r = ((r.toNat : Nat) : Int) := by omega
  have q := atI_nat (xs := t.cps.toList) (j := r.toNat) (v := t.cps.toList[r.toNat]) (List.getElem?_eq_getElem hr)
  rw [← e] at q
  exact q
section
variable {P : Program} {w : World} {K : PySem.W.Frag} {mg : Str → Option Value} {base : Heap} {TT : Addr}
theorem sc_law_standing : FnScope ["deck", "net"] ["deck", "net"] (defScope (top 39)) := ⟨rfl, rfl, rfl, by decide +kernel, rfl, by decide +kernel, by decide +kernel⟩
theorem ok_standing {f : Addr} {fd : FuncData} (Fu : Fun K "_law_standing" "_law_standing" (top 39) f fd) (T : Txt K mg TT) (f_law_draw : Fn P w K mg base "_law_draw" ["deck", "many"] 1 spDraw) : FnOk P w K mg base CX0 2 f fd ["deck", "net"] spStanding := by
  have S := sc_law_standing
  refine Fu.ok S (fun vs H Q E h => ?_) (fun cdv A outer s H vs Q E hr h => ?_)
  · obtain ⟨D, a, li, lg, ins, gvs, gs, rfl, _⟩ := h
    rfl
  · obtain ⟨D, a, li, lg, ins, gvs, gs, rfl, DA, NA, ok, k⟩ := h
    obtain ⟨ha, hi, hg, gts⟩ := id NA
    have lg' := paired_len gts
    have i4 := ok.i4
    have g7 := ok.g7
    refine ⟨_, (pss_one (ps_ret (pe_bm PySem.F.plainAttrs_str PySem.F.slot_str_join PySem.F.type_str_join mt_join pe_str (pa_cons (pe_lc (tgs := ["k"]) (cap := [("deck", 0)]) rfl ⟨rfl, rfl, rfl, rfl, rfl, rfl⟩ (pi_range1 (by rfl) T.n_range (pa_cons (pe_op op_add (pe_callB call_len_seq (by rfl) T.n_len PySem.boot_len (pa_cons (pe_ix ix_tup (pv 1) pe_int (fun _ _ => rfl)) pa_nil)) (pe_callB call_len_seq (by rfl) T.n_len PySem.boot_len (pa_cons (pe_ix ix_tup (pv 1) pe_int (fun _ _ => rfl)) pa_nil))) pa_nil)) (fun _ _ _ _ => (pg_name (i := 0) (show List.Nodup [("k" : Str), ("deck" : Str)] by decide +kernel) rfl (by first | exact Or.inl rfl | exact Or.inr rfl))) (fun _ _ _ _ => pifs_nil) (fun _ _ _ _ => (pe_ix ix_str pe_str (pe_fn f_law_draw (hr.mono (by first | decide | omega)) (by rfl) (pa_cons (pv 1) (pa_cons pe_int pa_nil))) (fun _ _ => rfl)))) pa_nil)))), ?_⟩
    try dsimp only [cxOf, Cx.nox, Cx.wish]
    rw [show L2.start ["deck", "net"] [V.ref D.d, V.ref a] = [some (.ref D.d), some (.ref a)] from rfl]
    repeat walk_at "vc"
    refine ⟨rfl, ?_⟩
    repeat walk_at "vc"
    refine i_comp ?_
    repeat walk_at "vc"
    have en : ((ins.map V.str).length : Int) + (gvs.length : Int) = (((wiresN ins gs).length : Nat) : Int) := by
      unfold wiresN
      rw [List.length_append, List.length_map, List.length_map, lg']
      rfl
    have wl : (wiresN ins gs).length < 1000 := by
      unfold wiresN
      rw [List.length_append, List.length_map]
      omega
    rw [en]
    refine ⟨_, rfl, by omega, by omega, fun L hL => ?_⟩
    rw [Int.toNat_natCast]
    refine comp_letters (t := "01") DA hL (by omega) (fun x => ⟨rfl, trivial⟩) (fun i H' Q' DA' kq => ?_) (fun H' zs hz hc kp hl => ?_)
    · show tOp _ _ _ _ _ _
      repeat walk_at "vc"
      refine ⟨D, 2, rfl, DA', by decide, by decide, fun r H2 r0 r1 k2 => ?_⟩
      have z2 : (("01" : Str).cps.size : Int) = 2 := by decide +kernel
      obtain ⟨c, e, hc⟩ := atI_str (t := "01") r0 (by rw [z2]; exact r1)
      exact i_ixS (by decide +kernel) e (kq c H2 hc k2)
    · obtain ⟨e1, e2⟩ := join_size hc
      obtain ⟨_, _, e3⟩ := letters_flat zs hc
      refine i_nil ⟨"", L, zs, rfl, rfl, SqL.of hl, ?_, ?_⟩
      · have : ("" : Str).length = 0 := by decide +kernel
        rw [e3, this]
        omega
      · have e0 : ("" : Str) = Str.empty := by decide +kernel
        rw [e0]
        refine k _ H' ⟨by rw [e1, hz], fun c hc' => ?_⟩ kp
        have := e2 c hc'
        have hh : ∀ c ∈ ("01" : Str).cps.toList, c = 48 ∨ c = 49 := by decide +kernel
        exact hh c this
theorem sc_law_rule : FnScope ["deck", "names", "deep", "kind", "one"] ["deck", "names", "deep"] (defScope (top 34)) := ⟨rfl, rfl, rfl, by decide +kernel, rfl, by decide +kernel, by decide +kernel⟩
theorem ok_rule {f : Addr} {fd : FuncData} (Fu : Fun K "_law_rule" "_law_rule" (top 34) f fd) (T : Txt K mg TT) (f_law_draw : Fn P w K mg base "_law_draw" ["deck", "many"] 1 spDraw) (hm : mg "_law_rule" = some (.ref f)) (hk : PySem.W.keepIn K (.ref f) = true) (hb : Binds K fd ["deck", "names", "deep"] []) : ∀ d, FnOk P w K mg base CX0 (d + 1) f fd ["deck", "names", "deep"] (spRule d)
  | 0 => fnok_false fun vs H Q E ⟨D, l, ns, m, _, _, _, _, _, h1, h2, _⟩ => by omega
  | d + 1 => by
    have S := sc_law_rule
    have f_law_rule : Fn P w K mg base "_law_rule" ["deck", "names", "deep"] (d + 1) (spRule d) := ⟨f, fd, ok_rule Fu T f_law_draw hm hk hb d, hm, hk, hb⟩
    refine Fu.ok S (fun vs H Q E h => ?_) (fun cdv A outer s H vs Q E hr h => ?_)
    · obtain ⟨D, l, ns, m, rfl, _⟩ := h
      rfl
    · obtain ⟨D, l, ns, m, rfl, DA, hl, ne, few, m1, m2, k⟩ := h
      refine ⟨_, (pss_cons (ps_set (i := 3) S.nd rfl (by first | exact Or.inl rfl | exact Or.inr rfl) (pe_fn f_law_draw (hr.mono (by first | decide | omega)) (by rfl) (pa_cons (pv 0) (pa_cons pe_int pa_nil))))
      (pss_cons (ps_if (PW.pt (pw_or (pt_cmpR op_eq (pv 2) pe_int (nomark _)) (pw_or1 (pt_cmpR op_lt (pv 3) pe_int (nomark _))))) (pss_one (ps_ret (pe_tup (pa_cons pe_str (pa_cons (pe_ix ix_list (pv 1) (pe_fn f_law_draw (hr.mono (by first | decide | omega)) (by rfl) (pa_cons (pv 0) (pa_cons (pe_callB call_len_seq (by rfl) T.n_len PySem.boot_len (pa_cons (pv 1) pa_nil)) pa_nil))) (fun _ _ => rfl)) pa_nil))))) pss_nil)
      (pss_cons (ps_set (i := 4) S.nd rfl (by first | exact Or.inl rfl | exact Or.inr rfl) (pe_fn f_law_rule (hr.mono (by first | decide | omega)) (by rfl) (pa_cons (pv 0) (pa_cons (pv 1) (pa_cons (pe_op op_sub (pv 2) pe_int) pa_nil)))))
      (pss_cons (ps_if (pt_cmpR op_eq (pv 3) pe_int (nomark _)) (pss_one (ps_ret (pe_tup (pa_cons pe_str (pa_cons (pv 4) pa_nil))))) pss_nil)
      (pss_one (ps_ret (pe_tup (pa_cons (pe_ix ix_list (pe_lst (pa_cons pe_str (pa_cons pe_str pa_nil))) (pe_fn f_law_draw (hr.mono (by first | decide | omega)) (by rfl) (pa_cons (pv 0) (pa_cons pe_int pa_nil))) (fun _ _ => rfl)) (pa_cons (pv 4) (pa_cons (pe_fn f_law_rule (hr.mono (by first | decide | omega)) (by rfl) (pa_cons (pv 0) (pa_cons (pv 1) (pa_cons (pe_op op_sub (pv 2) pe_int) pa_nil)))) pa_nil)))))))))), ?_⟩
      try dsimp only [cxOf, Cx.nox, Cx.wish]
      rw [show L2.start ["deck", "names", "deep", "kind", "one"] [V.ref D.d, V.ref l, V.int m] = [some (.ref D.d), some (.ref l), some (.int m), none, none] from rfl]
      have nl : 1 ≤ ns.length := by
        cases ns with
        | nil => exact absurd rfl ne
        | cons a r => simp
      repeat walk_at "vc"
      refine ⟨D, 6, rfl, DA, by decide, by decide, fun kind H1 k0 k6 kp1 => ?_⟩
      have hl1 := kp1.strs DA hl
      have leaf : tTup (tCons (tC (V.str "wire")) (tCons (tOp (rIxL K) (tVar 1) (tCall spDraw [] E0 (tCons (tVar 0) (tCons (tCB (fun xs H Q => ∃ p ys, xs = [V.ref p] ∧ (SqL K H p ys ∨ SqT K H p ys) ∧ Q (V.int ↑ys.length) H) (tCons (tVar 1) tNil)) tNil)))) tNil)) [some (.ref D.d), some (.ref l), some (.int m), some (.int kind), none] H1 Q := by
        repeat walk_at "vc"
        refine ⟨D, _, rfl, kp1.dk, by rw [List.length_map]; omega, by rw [List.length_map]; omega, fun r H2 r0 r1 kp2 => ?_⟩
        have hl2 := kp2.strs kp1.dk hl1
        rw [List.length_map] at r1
        have hr' : r.toNat < ns.length := by omega
        have e : atI (ns.map V.str) r = some (.str ns[r.toNat]) := by
          have e : r = ((r.toNat : Nat) : Int) := by omega
          have q := atI_nat (xs := ns.map V.str) (j := r.toNat) (v := .str ns[r.toNat]) (by rw [List.getElem?_map, List.getElem?_eq_getElem hr']; rfl)
          rw [← e] at q
          exact q
        refine i_ixL (SqL.of hl2) e ?_
        repeat walk_at "vc"
        refine ⟨by simp [sizeLine], fun p hp => ?_⟩
        exact k _ (.w ns[r.toNat]) _ (.w upd_same) (List.getElem_mem hr') (by simp [Rl.dep]; omega) ((kp1.trans kp2).new hp)
      repeat walk_at "vc"
      refine ite2 (fun h1 => ?_) (fun h1 => ?_)
      · exact iteT leaf
      · have m3 : m ≠ 1 := by
          intro z
          subst z
          exact h1 (by decide +kernel)
        repeat walk_at "vc"
        refine ite2 (fun h2 => ?_) (fun h2 => ?_)
        · exact leaf
        · repeat walk_at "vc"
          refine ⟨D, l, ns, m - 1, ?_, kp1.dk, hl1, ne, few, by omega, by omega, fun v r H2 hv rok rd kp2 => ?_⟩
          · have : (m : Int) - 1 = ((m - 1 : Nat) : Int) := by omega
            rw [this]
          have hl2 := kp2.strs kp1.dk hl1
          have kp12 := kp1.trans kp2
          repeat walk_at "vc"
          refine ite2 (fun h3 => ?_) (fun h3 => ?_)
          · repeat walk_at "vc"
            refine ⟨by simp [sizeLine], fun p hp => ?_⟩
            exact k _ (.no r) _ (.no upd_same (hv.mono (Same.tups (fresh_same hp)))) rok (by simp only [Rl.dep]; omega) (kp12.new hp)
          · repeat walk_at "vc"
            refine ⟨by simp [sizeLine], fun p hp => ?_⟩
            have hpp : upd H2 p (HO.lst [V.str "and", V.str "or"]) p = some (.lst ((["and", "or"] : List Str).map V.str)) := upd_same
            have S3 := fresh_same (o := HO.lst [V.str "and", V.str "or"]) hp
            have kp3 := Kp.of kp12.dk S3
            generalize upd H2 p (HO.lst [V.str "and", V.str "or"]) = H3 at *
            repeat walk_at "vc"
            refine ⟨D, 2, rfl, kp3.dk, by decide, by decide, fun r' H4 r0 r1 kp4 => ?_⟩
            have hp4 := kp4.strs kp3.dk hpp
            have hv4 := (hv.mono (Same.tups S3)).mono (kp4.tups kp3.dk)
            have hl4 := kp4.strs kp3.dk (S3 _ _ hl2)
            have kp14 := kp12.trans (kp3.trans kp4)
            have last : ∀ (wd : Str) (mk : Rl → Rl → Rl), (∀ {H : Hp} {a : Addr} {v u : V} {r s : Rl}, H a = some (.tup [.str wd, v, u]) → RAt H v r → RAt H u s → RAt H (.ref a) (mk r s)) → (∀ r s, (mk r s).dep = max r.dep s.dep + 1) → (∀ r s, r.ok ns → s.ok ns → (mk r s).ok ns) →
                tCons (tVar 4) (tCons (tCall (spRule d) [] E0 (tCons (tVar 0) (tCons (tVar 1) (tCons (tOp (rI0 fun i j => V.int (i - j)) (tVar 2) (tC (V.int 1))) tNil)))) tNil) [some (.ref D.d), some (.ref l), some (.int m), some (.int kind), some v] H4
                  fun xs H5 => (V.str wd :: xs).length ≤ sizeLine ∧ ∀ p, H5 p = none → Q (.ref p) (upd H5 p (.tup (V.str wd :: xs))) := by
              intro wd mk c1 c2 c3
              repeat walk_at "vc"
              refine ⟨D, l, ns, m - 1, ?_, kp4.dk, hl4, ne, few, by omega, by omega, fun v2 s2 H5 hv2 rok2 rd2 kp5 => ?_⟩
              · have : (m : Int) - 1 = ((m - 1 : Nat) : Int) := by omega
                rw [this]
              repeat walk_at "vc"
              refine ⟨by simp [sizeLine], fun p hp => ?_⟩
              have S6 := fresh_same (o := HO.tup [V.str wd, v, v2]) hp
              exact k _ (mk r s2) _ (c1 upd_same ((hv4.mono (kp5.tups kp4.dk)).mono (Same.tups S6)) (hv2.mono (Same.tups S6))) (c3 _ _ rok rok2) (by rw [c2]; omega) ((kp14.trans kp5).new hp)
            have hr2 : r' = 0 ∨ r' = 1 := by omega
            rcases hr2 with z | z
            · subst z
              refine i_ixL (SqL.of hp4) (v := .str "and") rfl ?_
              exact last "and" .an (fun a b c => .an a b c) (fun _ _ => rfl) (fun _ _ a b => ⟨a, b⟩)
            · subst z
              refine i_ixL (SqL.of hp4) (v := .str "or") rfl ?_
              exact last "or" .orr (fun a b c => .orr a b c) (fun _ _ => rfl) (fun _ _ a b => ⟨a, b⟩)
end
set_option Elab.async false
set_option linter.all false
set_option maxRecDepth 100000
set_option maxHeartbeats 4000000

theorem seq_join {A B : TS} {D : Ends} {σ : St} {H : Hp} (J : St → Hp → Prop) (h : ∀ (R : St → Hp → Prop), (∀ σ H, J σ H → R σ H) → A { D with nx := R } σ H) (hJ : ∀ σ H, J σ H → B D σ H) : tSeq A B D σ H := h (B D) hJ
theorem Kp.free {D : Dk} {H H' : Hp} {l : Addr} (k : Kp D H H') (h : H' l = none) : H l = none := by
  cases e : H l with
  | none => rfl
  | some o =>
    by_cases ow : D.own l
    · obtain ⟨⟨n, hd⟩, _, _, _, pools⟩ := k.dk
      rcases ow with z | z
      · rw [z, hd] at h; cases h
      · obtain ⟨a, b, c, e'⟩ := pools l z
        rw [e'] at h; cases h
    · rw [k.old l o e ow] at h; cases h
theorem at_pick {ws : List Str} {r : Int} (h0 : 0 ≤ r) (h1 : r < ws.length) : ∃ n ∈ ws, atI (ws.map V.str) r = some (.str n) := by
  have hr : r.toNat < ws.length := by omega
  refine ⟨ws[r.toNat], List.getElem_mem hr, ?_⟩
  have e : r = ((r.toNat : Nat) : Int) := by omega
  have q := atI_nat (xs := ws.map V.str) (j := r.toNat) (v := .str ws[r.toNat]) (by rw [List.getElem?_map, List.getElem?_eq_getElem hr]; rfl)
  rw [← e] at q
  exact q
theorem se_tup {a : List Expr} {n : Nat} {p : Pos} {es : List Expr} {env : Env} : starEach (.Tuple a n p :: es) env = (false, eval (.Tuple a n p) env) :: starEach es env := by rfl
theorem se_lst {a : List Expr} {p : Pos} {es : List Expr} {env : Env} : starEach (.List a p :: es) env = (false, eval (.List a p) env) :: starEach es env := by rfl
theorem se_call {f : Expr} {a : List Expr} {k : List Keyword} {p : Pos} {es : List Expr} {env : Env} : starEach (.Call f a k p :: es) env = (false, eval (.Call f a k p) env) :: starEach es env := by rfl
theorem se_con {c : Const} {n : Nat} {p : Pos} {es : List Expr} {env : Env} : starEach (.Constant c n p :: es) env = (false, eval (.Constant c n p) env) :: starEach es env := by rfl
theorem se_name {x : Str} {p : Pos} {es : List Expr} {env : Env} : starEach (.Name x p :: es) env = (false, eval (.Name x p) env) :: starEach es env := by rfl
theorem same_gen {H H' : Hp} {p : Addr} {o : HO} (hE : upd H p o = H') (hp : H p = none) : Same H H' := by subst hE; exact fresh_same hp
theorem at_gen {H H' : Hp} {p : Addr} {o : HO} (hE : upd H p o = H') : H' p = some o := by subst hE; exact upd_same
theorem ne_of_none' {H : Hp} {a b : Addr} {o : HO} (h1 : H a = some o) (h2 : H b = none) : b ≠ a := fun z => by rw [z, h1] at h2; cases h2
theorem paired_snoc {α β : Type} {F : α → β → Prop} : ∀ {xs : List α} {ys : List β} {x : α} {y : β}, Paired F xs ys → F x y → Paired F (xs ++ [x]) (ys ++ [y])
  | _, _, _, _, .nil, h => .cons h .nil
  | _, _, _, _, .cons h t, g => .cons h (paired_snoc t g)
theorem paired_mono {α β : Type} {F G : α → β → Prop} (h : ∀ a b, F a b → G a b) : ∀ {xs : List α} {ys : List β}, Paired F xs ys → Paired G xs ys
  | _, _, .nil => .nil
  | _, _, .cons a t => .cons (h _ _ a) (paired_mono h t)
noncomputable def heldR (a : Str) (b : Rl) (c : Str) : Rl := .orr (.an (.w a) b) (.an (.w c) (.orr (.w a) b))
noncomputable def spDeck (K : PySem.W.Frag) : Sp := fun vs H Q _ => ∃ (s : Addr) (ns : List Int), vs = [.ref s] ∧ SqL K H s (ns.map V.int) ∧ ns.length ≤ 63 ∧ ∀ D H', Same H H' → Dk.At D H' → Q (.ref D.d) H'
section
variable {P : Program} {w : World} {K : PySem.W.Frag} {mg : Str → Option Value} {base : Heap} {TT : Addr}
theorem sc_law_deck : FnScope ["script", "pools", "k", "cell"] ["script"] (defScope (top 32)) := ⟨rfl, rfl, rfl, by decide +kernel, rfl, by decide +kernel, by decide +kernel⟩
theorem ok_deck {f : Addr} {fd : FuncData} (Fu : Fun K "_law_deck" "_law_deck" (top 32) f fd) (T : Txt K mg TT) : FnOk P w K mg base CX0 1 f fd ["script"] (spDeck K) := by
  have S := sc_law_deck
  refine Fu.ok S (fun vs H Q E h => ?_) (fun cdv A outer s H vs Q E hr h => ?_)
  · obtain ⟨a, ns, rfl, _⟩ := h
    rfl
  · obtain ⟨a, ns, rfl, hS, hlen, k⟩ := h
    refine ⟨_, (pss_cons (ps_set (i := 1) S.nd rfl (by first | exact Or.inl rfl | exact Or.inr rfl) (pe_lst pa_nil))
      (pss_cons (ps_for PassesOwn.never rfl (pi_range1 (by rfl) T.n_range (pa_cons (pe_callB (call_max2 rfl) (by rfl) T.n_max PyProof.Rows.boot_max (pa_cons pe_int (pa_cons (pe_callB (call_min2 rfl) (by rfl) T.n_min PyProof.Rows.boot_min (pa_cons pe_int (pa_cons (pe_callB call_len_seq (by rfl) T.n_len PySem.boot_len (pa_cons (pv 0) pa_nil)) pa_nil))) pa_nil))) pa_nil)) (pg_name (i := 2) S.nd rfl (by first | exact Or.inl rfl | exact Or.inr rfl))
      (pss_cons (ps_set (i := 3) S.nd rfl (by first | exact Or.inl rfl | exact Or.inr rfl) pe_int)
      (pss_cons (ps_if (pt_cmpR op_lt (pv 2) (pe_callB call_len_seq (by rfl) T.n_len PySem.boot_len (pa_cons (pv 0) pa_nil)) (nomark _)) (pss_one (ps_set (i := 3) S.nd rfl (by first | exact Or.inl rfl | exact Or.inr rfl) (pe_ix ix_list (pv 0) (pv 2) (fun _ _ => rfl)))) pss_nil)
      (pss_one (ps_expr (pe_bm PySem.F.plainAttrs_list PySem.F.slot_list_append PySem.F.type_list_append mt_append (pv 1) (pa_cons (pe_lst (pa_cons (pv 3) (pa_cons (pe_callTy call_int1 (by rfl) T.n_int PyProof.Rows.boot_int (pa_cons (pe_cmpR op_ge (pv 3) (pe_op op_pow pe_int pe_int) (nomark _)) pa_nil)) (pa_cons (pe_op op_mul pe_int (pv 2)) pa_nil)))) pa_nil)))))))
      (pss_one (ps_ret (pe_lst (pa_cons (pv 1) (pa_cons pe_int pa_nil))))))), ?_⟩
    try dsimp only [cxOf, Cx.nox, Cx.wish]
    rw [show L2.start ["script", "pools", "k", "cell"] [V.ref a] = [some (.ref a), none, none, none] from rfl]
    have big : 1000 < sizeLine := by decide
    repeat walk_at "vc"
    refine ⟨by decide, fun p hp => ?_⟩
    have S1 := fresh_same (o := .lst []) hp
    have q1 : upd H p (.lst []) p = some (.lst (([] : List Addr).map V.ref)) := upd_same
    generalize upd H p (.lst []) = H1 at *
    repeat walk_at "vc"
    refine ⟨_, _, rfl, Or.inl (S1.seq hS), ?_⟩
    repeat walk_at "vc"
    refine ⟨_, _, rfl, ?_⟩
    repeat walk_at "vc"
    refine ⟨_, _, rfl, ?_⟩
    rw [List.length_map]
    obtain ⟨N, hN, N1, N63⟩ : ∃ N : Nat, (if (if (ns.length : Int) < 63 then (ns.length : Int) else 63) > 1 then (if (ns.length : Int) < 63 then (ns.length : Int) else 63) else 1) = (N : Int) ∧ 1 ≤ N ∧ N ≤ 63 := by
      by_cases h1 : (ns.length : Int) < 63
      · rw [if_pos h1]
        by_cases h2 : (ns.length : Int) > 1
        · rw [if_pos h2]; exact ⟨ns.length, rfl, by omega, by omega⟩
        · rw [if_neg h2]; exact ⟨1, rfl, by omega, by omega⟩
      · rw [if_neg h1, if_pos (by decide)]
        exact ⟨63, rfl, by omega, by omega⟩
    rw [hN]
    repeat walk_at "vc"
    refine ⟨_, rfl, by omega, by omega, ?_⟩
    rw [Int.toNat_natCast]
    refine for_range (fun i σ H' => ∃ x2 x3 qs, σ = [some (.ref a), some (.ref p), x2, x3] ∧ Same H H' ∧ H' p = some (.lst (qs.map V.ref)) ∧ qs.length = i ∧ i ≤ N ∧ ∀ q ∈ qs, ∃ a b c : Int, H' q = some (.lst [.int a, .int b, .int c]))
      ⟨_, _, [], rfl, S1, q1, rfl, Nat.zero_le _, (fun q h => nomatch h)⟩ (fun i σ H' hi pv => ?_) (fun σ H' pv => ?_)
    · obtain ⟨x2, x3, qs, rfl, SS, hpp, hq, _, pools⟩ := pv
      refine s_name ?_
      with_reducible refine s_seq (s_asg (i_c (s_name ?_)))
      with_reducible refine seq_join (fun σ H2 => ∃ c : Int, σ = [some (.ref a), some (.ref p), some (.int (0 + i)), some (.int c)] ∧ H2 = H') (fun R hR => ?_) (fun σ6 H6 j6 => ?_)
      · repeat walk_at "vc"
        refine ⟨_, _, rfl, Or.inl (SS.seq hS), ?_⟩
        repeat walk_at "vc"
        refine ite2 (fun hlt => ?_) (fun _ => hR _ _ ⟨0, rfl, rfl⟩)
        have hlt' : i < ns.length := by
          have := of_decide_eq_true hlt
          rw [List.length_map] at this
          omega
        repeat walk_at "vc"
        refine i_ixL (v := .int ns[i]) (SS.seq hS) ?_ ?_
        · have e : (0 : Int) + (i : Int) = ((i : Nat) : Int) := by omega
          rw [e]
          exact atI_nat (by rw [List.getElem?_map, List.getElem?_eq_getElem hlt']; rfl)
        · exact s_name (hR _ _ ⟨ns[i], rfl, rfl⟩)
      · obtain ⟨c, rfl, rfl⟩ := j6
        repeat walk_at "vc"
        refine ⟨i_tyL hpp, ?_⟩
        repeat walk_at "vc"
        refine i_rI ⟨by decide, by decide, by decide⟩ ?_
        repeat walk_at "vc"
        refine i_rI (.inl ⟨by decide, by decide⟩) ?_
        repeat walk_at "vc"
        refine ⟨by simp [sizeLine], fun q hqn => ?_⟩
        generalize hE : upd _ q _ = H7
        have S7 := same_gen hE hqn
        have q7 := at_gen hE
        clear hE
        have npq : q ≠ p := ne_of_none' hpp hqn
        repeat walk_at "vc"
        refine i_app (S7 _ _ hpp) (by rw [List.length_map]; omega) ?_
        refine ⟨_, _, qs ++ [q], rfl, same_upd (SS.trans S7) hp, by rw [upd_same]; simp, by simp [hq], by omega, fun q' hq' => ?_⟩
        rcases List.mem_append.mp hq' with h | h
        · obtain ⟨a', b', c', e⟩ := pools q' h
          have e7 := S7 _ _ e
          have npq' : q' ≠ p := fun z => by
            rw [z, S7 _ _ hpp] at e7
            have e7 := Option.some.inj e7
            injection e7 with e7
            cases qs with
            | nil => cases e7
            | cons u r => simp at e7
          exact ⟨a', b', c', by rw [upd_ne npq']; exact e7⟩
        · have : q' = q := by simpa using h
          subst this
          exact ⟨_, _, _, by rw [upd_ne npq]; exact q7⟩
    · obtain ⟨x2, x3, qs, rfl, SS, hpp, hq, _, pools⟩ := pv
      have fin : tRet (tLst (tCons (tVar 1) (tCons (tC (V.int 0)) tNil))) { nx := fun x H' => Q V.non H', rt := Q } [some (.ref a), some (.ref p), x2, x3] H' := by
        repeat walk_at "vc"
        refine ⟨by simp [sizeLine], fun d hd => ?_⟩
        have S8 := fresh_same (o := HO.lst [V.ref p, V.int 0]) hd
        refine k ⟨d, p, qs⟩ _ (SS.trans S8) ⟨⟨0, upd_same⟩, S8 _ _ hpp, ?_, by show qs.length ≤ 63; omega, fun q hq' => ?_⟩
        · show qs ≠ []
          intro z
          rw [z] at hq
          simp at hq
          omega
        · obtain ⟨a', b', c', e⟩ := pools q hq'
          exact ⟨a', b', c', S8 _ _ e⟩
      exact fin
end
end K2
set_option Elab.async false
set_option linter.all false
set_option maxRecDepth 100000
set_option maxHeartbeats 4000000
namespace K2
open PySem L2
local macro_rules | `(tactic| walk_at "vc") => `(tactic| first
  | ((refine' (?zz : (?zA → ?zG) → ?zA → ?zG) ?zr ?_); (case zr => with_reducible exact s_seqT); (case zz => exact fun _ q => q); intro D') | ((refine' (?zz : (?zA → ?zG) → ?zA → ?zG) ?zr ?_); (case zr => with_reducible exact s_nameT); (case zz => exact fun _ q => q); intro σ') | ((refine' (?zz : (?zA → ?zG) → ?zA → ?zG) ?zr ?_); (case zr => with_reducible first | exact s_asg | exact s_drop | exact s_ret | exact s_if | exact s_sub | exact s_next | exact i_c | exact i_op | exact i_test | exact i_tB | exact i_and | exact i_or | exact i_not | exact i_andV | exact i_orV | exact i_notV | exact i_ifE | exact i_nil | exact i_cons | exact i_cb | exact i_tup | exact i_lst | exact i_bm | exact i_sl | exact i_nopart | exact i_part | exact s_for | exact s_rng1 | exact s_list | exact s_str | exact i_dget | exact i_yes | exact i_un); (case zz => exact fun _ q => q))
  | ((with_reducible refine' i_var ?hv ?_); (case hv => exact rfl))   | (with_reducible first | refine i_rI0 ?_ | refine i_call ?_ | refine s_strI ?_ | refine iteF ?_ | refine iteT ?_ | refine i_rU ?_)
  | ((with_reducible show ∃ i, V.int _ = V.int i ∧ _); (refine ⟨_, rfl, ?_⟩)) | ((with_reducible show ∃ k, V.bl _ = V.bl k ∧ _); (refine ⟨_, rfl, ?_⟩)) | ((with_reducible show (∃ i, [V.bl _] = [V.int i] ∧ _) ∨ _); (refine Or.inr ⟨_, rfl, ?_⟩))
  | ((with_reducible refine' i_ixL ?ha ?hb ?_); (case ha => exact SqL.of (by assumption)); (case hb => exact rfl)) | ((with_reducible refine' i_ixT ?ha ?hb ?_); (case ha => assumption); (case hb => exact rfl))
  | ((with_reducible show ∃ p _, [V.ref _] = [V.ref p] ∧ (SqL _ _ _ _ ∨ SqT _ _ _ _) ∧ _); (refine' ⟨_, _, rfl, Or.inl (SqL.of ?ha), ?_⟩); (case ha => assumption)) | ((with_reducible refine' s_setL ?ha ?hb ?_); (case ha => assumption); (case hb => exact rfl))
  | ((with_reducible refine' i_eq ?ha ?_); (case ha => exact rfl)) | ((with_reducible refine' i_ne ?ha ?_); (case ha => exact rfl))
  | ((with_reducible show ∃ z, V.str _ = V.str z ∧ _); (refine ⟨_, rfl, ?_⟩))
  | ((with_reducible refine' i_rI ?hv ?_); (case hv => first | decide | (dsimp only; omega) | exact .inl ⟨by omega, by omega⟩ | exact .inr ⟨by omega, by omega⟩ | exact ⟨by decide, by decide⟩ | exact ⟨by decide, by decide, by decide⟩ | exact ⟨by omega, by omega⟩))
  | ((with_reducible show ∃ i, [V.int _] = [V.int i] ∧ _); (refine ⟨_, rfl, ?_⟩))
  | ((with_reducible show tyV _ "list" _ _ ∧ _); (refine' ⟨i_tyL ?ha, ?_⟩); (case ha => assumption)))

theorem pg_tupK {X : Cx} {K : PySem.W.Frag} {es : List Expr} {k : Nat} {t : TGs} {n : Nat} {pos : Pos} (hK : X.K = K) (hc : X.calm = true) (h : PGs X es t)
    (hn : (assignEach es X.env).length = n := by rfl) (hst : (assignEach es X.env).findIdx? (·.1) = none := by rfl) : PG X (.Tuple es k pos) (gTup K n t) := by subst hK; exact pg_tup hc h hn hst
theorem comp_listF {K : PySem.W.Frag} {H1 : Hp} {D : Addr} {σ0 : St} {g : TG} {te : TE} {tt : TT} {QD : Hp → Prop} {a : Addr} {xs : List V} (Pv : Nat → Hp → List V → Prop) (h0 : Pv 0 (upd H1 D (.lst [])) []) (hD : ∀ i H ys, Pv i H ys → H D = some (.lst ys) ∧ SqL K H a xs)
    (hs : ∀ i x H ys, xs[i]? = some x → Pv i H ys → g x σ0 H fun σ2 H2 => wk σ0 σ2 ∧ tt σ2 H2 fun b H3 => if b = true then te σ2 H3 (NextC Pv xs.length D i ys) else ∃ m', m' < xs.length - i ∧ (m' = xs.length - (i + 1) ∧ i + 1 ≤ xs.length ∧ Pv (i + 1) H3 ys)) (hd : ∀ H ys, Pv xs.length H ys → QD H) :
    ∃ W : Nat → Nat → Hp → List V → Prop, (∃ m, W 0 m (upd H1 D (.lst [])) []) ∧ ∀ i m H ys, W i m H ys → H D = some (.lst ys) ∧ (((Itl K a).stop i H ∧ QD H) ∨ ((Itl K a).go i H ∧ ∀ x H', (Itl K a).yld i H x H' → g x σ0 H' fun σ2 H2 => wk σ0 σ2 ∧ tt σ2 H2 fun b H3 =>
      if b = true then te σ2 H3 fun v H4 => H4 D = some (.lst ys) ∧ ys.length < sizeLine ∧ ∃ m', m' < m ∧ W (i + 1) m' (upd H4 D (.lst (ys ++ [v]))) (ys ++ [v]) else ∃ m', m' < m ∧ W (i + 1) m' H3 ys)) := by
  refine ⟨fun i m H ys => m = xs.length - i ∧ i ≤ xs.length ∧ Pv i H ys, ⟨xs.length, by simp, Nat.zero_le _, h0⟩, ?_⟩
  rintro i m H ys ⟨rfl, hi, p⟩
  obtain ⟨d1, d2⟩ := hD i H ys p
  refine ⟨d1, ?_⟩
  by_cases hlt : i < xs.length
  · refine .inr ⟨⟨xs, xs[i], d2, by simp [hlt]⟩, fun x H' y => ?_⟩
    obtain ⟨e, y⟩ := y
    subst e
    exact hs i x _ ys (y xs d2) p
  · have e : i = xs.length := by omega
    subst e
    exact .inl ⟨⟨xs, d2, Nat.le_refl _⟩, hd H ys p⟩
theorem count_take {ns : List Str} {n : Nat} {z : Str} (e : ns[n]? = some z) (f : Str → Bool) : (ns.take (n + 1)).filter f = if f z = true then (ns.take n).filter f ++ [z] else (ns.take n).filter f := by
  rw [List.take_succ, e, List.filter_append]
  by_cases c : f z = true
  · rw [if_pos c]; simp [c]
  · rw [if_neg c]; simp [c]
section
variable {P : Program} {w : World} {K : PySem.W.Frag} {mg : Str → Option Value} {base : Heap} {TT : Addr}
end
set_option Elab.async false
set_option linter.all false
set_option maxRecDepth 100000
set_option maxHeartbeats 4000000

structure Held6 (C : Addr) (H : Hp) (e : Addr) : Prop where
  ex : ∃ d fr, H e = some (XO e C d fr) ∧ ∀ dx, d = some dx → ∃ fs, H dx = some (.xd fs)
structure Fn1 (P : Program) (w : World) (K : PySem.W.Frag) (mg : Str → Option Value) (base : Heap) (x : Str) (ps : List Str) (k : Nat) (sp : Sp) : Prop where
  ex : ∃ f fd, FnOk P w K mg base (CX1 P w) k f fd ps sp ∧ mg x = some (.ref f) ∧ PySem.W.keepIn K (.ref f) = true ∧ Binds K fd ps []
set_option Elab.async false
set_option linter.all false
set_option maxRecDepth 100000
set_option maxHeartbeats 4000000

theorem valV_putAll_out {k : Key} : ∀ {qs kvs : List (Key × V)}, k ∉ qs.map (·.1) → valV (putAll kvs qs) k = valV kvs k
  | [], kvs, _ => rfl
  | q :: qs, kvs, h => by
    simp only [List.map_cons, List.mem_cons, not_or] at h
    show valV (putAll (putK kvs q.1 q.2) qs) k = _
    rw [valV_putAll_out h.2, valV_put, if_neg h.1]
theorem valV_putAll_in {k : Key} {v : V} : ∀ {qs kvs : List (Key × V)}, (qs.map (·.1)).Nodup → (k, v) ∈ qs → valV (putAll kvs qs) k = some v
  | [], kvs, _, h => nomatch h
  | q :: qs, kvs, nd, h => by
    rw [List.map_cons, List.nodup_cons] at nd
    show valV (putAll (putK kvs q.1 q.2) qs) k = _
    rcases List.mem_cons.mp h with e | h
    · subst e
      rw [valV_putAll_out nd.1, valV_put, if_pos rfl]
    · exact valV_putAll_in nd.2 h
theorem zipped_keys (ns : List Str) (z : Str) : (zipped ns z).map (·.1) = ns.map Sum.inr := by
  unfold zipped
  rw [List.map_map]
  have e : ((fun x : Key × V => x.1) ∘ fun p : Str × Nat => ((Sum.inr p.1 : Key), signV z p.2)) = (fun p : Str × Nat => (Sum.inr p.1 : Key)) := rfl
  rw [e]
  have e2 : (fun p : Str × Nat => (Sum.inr p.1 : Key)) = (Sum.inr : Str → Key) ∘ Prod.fst := rfl
  rw [e2, ← List.map_map, List.zipIdx_map_fst]
theorem nodup_inr {ns : List Str} (h : ns.Nodup) : (ns.map (Sum.inr : Str → Key)).Nodup := by
  induction ns with
  | nil => exact List.nodup_nil
  | cons a r ih =>
    rw [List.nodup_cons] at h
    rw [List.map_cons, List.nodup_cons]
    refine ⟨fun m => ?_, ih h.2⟩
    obtain ⟨x, hx, e⟩ := List.mem_map.mp m
    cases e
    exact h.1 hx
theorem sign_sg {n : Nat} {z : Str} (st : StOk n z) {i : Nat} (hi : i < n) : signV z i = sg (z.cps.getD i 0 == 49) := by
  have hl := st.len
  have e : z.cps.getD i 0 = z.cps[i]'(by omega) := by simp [Array.getD, hl, hi]
  have : z.cps.getD i 0 = 48 ∨ z.cps.getD i 0 = 49 := by
    rw [e]
    exact st.signs _ (by simp)
  unfold signV
  rcases this with e | e
  · rw [e]; decide +kernel
  · rw [e]; decide +kernel
theorem dfn_zip {ns : List Str} {z : Str} (nd : ns.Nodup) (st : StOk ns.length z) : DFn (putAll [] (zipped ns z)) ns (sgn ns z) := fun n hn => by
  have hi : ns.idxOf n < ns.length := List.idxOf_lt_length_of_mem hn
  have e : ns[ns.idxOf n]? = some n := by rw [List.getElem?_eq_getElem hi]; exact congrArg some (List.getElem_idxOf hi)
  have hm : ((Sum.inr n : Key), signV z (ns.idxOf n)) ∈ zipped ns z := by
    unfold zipped
    refine List.mem_map.mpr ⟨(n, ns.idxOf n), ?_, rfl⟩
    rw [List.mem_zipIdx_iff_getElem?]
    exact e
  rw [valV_putAll_in (by rw [zipped_keys]; exact nodup_inr nd) hm, sign_sg st hi]
  rfl
theorem sg_c (b : Bool) : sg b = .str ⟨#[if b then 49 else 48]⟩ := by
  cases b
  · decide +kernel
  · decide +kernel
noncomputable def rowT (f : Str → Bool) (ws : List Str) : Str := ⟨(ws.map fun w => if f w then 49 else 48).toArray⟩
theorem row_list (f : Str → Bool) (ws : List Str) : (rowT f ws).cps.toList = ws.map fun w => if f w then 49 else 48 := rfl
theorem row_ok (f : Str → Bool) (ws : List Str) : StOk ws.length (rowT f ws) := by
  refine ⟨by show (ws.map _).toArray.size = _; simp, fun c hc => ?_⟩
  rw [row_list] at hc
  obtain ⟨w, _, e⟩ := List.mem_map.mp hc
  cases h : f w <;> simp [h] at e
  · exact .inl e.symm
  · exact .inr e.symm
theorem row_eq {f g : Str → Bool} {ws : List Str} (h : ∀ n ∈ ws, f n = g n) : rowT f ws = rowT g ws := by
  unfold rowT
  congr 2
  exact List.map_congr_left fun w hw => by rw [h w hw]
theorem sgn_row (f : Str → Bool) {ws : List Str} {n : Str} (hn : n ∈ ws) : sgn ws (rowT f ws) n = f n := by
  unfold sgn rowT
  have hi : ws.idxOf n < ws.length := List.idxOf_lt_length_of_mem hn
  have e : (ws.map fun w => if f w then 49 else 48).toArray.getD (ws.idxOf n) 0 = if f n then 49 else 48 := by
    simp [Array.getD, hi]
  rw [e]
  cases f n <;> rfl
theorem row_self {ws : List Str} {z : Str} (nd : ws.Nodup) (st : StOk ws.length z) : rowT (sgn ws z) ws = z := by
  have e : (rowT (sgn ws z) ws).cps.toList = z.cps.toList := by
    rw [row_list]
    refine List.ext_getElem (by rw [List.length_map, Array.length_toList]; exact st.len.symm) fun i h1 h2 => ?_
    rw [List.getElem_map]
    have hi : i < ws.length := by simpa using h1
    have ix : ws.idxOf ws[i] = i := nd.idxOf_getElem i hi
    unfold sgn
    rw [ix]
    have hz : i < z.cps.size := by rw [st.len]; exact hi
    have ez : z.cps.getD i 0 = z.cps[i] := by simp [Array.getD, hz]
    rw [ez, Array.getElem_toList]
    rcases st.signs z.cps[i] (by simp) with q | q <;> simp [q]
  have e2 : (rowT (sgn ws z) ws).cps = z.cps := Array.toList_inj.mp e
  show Str.mk (rowT (sgn ws z) ws).cps = Str.mk z.cps
  rw [e2]
section
variable {P : Program} {w : World} {K : PySem.W.Frag} {mg : Str → Option Value} {base : Heap} {TT : Addr}
noncomputable def spIsSt (v : V) : Sp := fun vs H Q _ => ∃ a li lg ins gvs gs z, vs = [.ref a, .str z] ∧ NAt H a li lg ins gvs gs ∧ NetOk ins gs ∧ StOk (wiresN ins gs).length z ∧ ∀ H', Same H H' → Q v H'
noncomputable def spRow : Sp := fun vs H Q _ => ∃ (z : Str) (m : Nat), vs = [.str z, .int (m : Int)] ∧ m ≤ 40 ∧ StOk m z ∧ ∀ H', Same H H' → Q (.bl true) H'
theorem sc_is_row : FnScope ["thing", "many"] ["thing", "many"] (defScope (top 15)) := ⟨rfl, rfl, rfl, by decide +kernel, rfl, by decide +kernel, by decide +kernel⟩
theorem ok_row {f : Addr} {fd : FuncData} (Fu : Fun K "is_row" "is_row" (top 15) f fd) (T : Txt K mg TT) : FnOk P w K mg base CX0 1 f fd ["thing", "many"] spRow := by
  have S := sc_is_row
  refine Fu.ok S (fun vs H Q E h => ?_) (fun cdv A outer s H vs Q E hr h => ?_)
  · obtain ⟨z, n, rfl, _⟩ := h
    rfl
  · obtain ⟨z, m, rfl, hm, st, k⟩ := h
    obtain ⟨TU, tU1, tU2⟩ := T.tU
    refine ⟨_, (pss_cons (ps_if (PW.pt (pw_or (pt_not (pt_val (pe_callB call_isinst (by rfl) T.n_isinstance PyProof.Rows.boot_isinstance (pa_cons (pv 0) (pa_cons (pe_bltn (v := .ty "str") (by rfl) T.n_str PyProof.Rows.boot_str rfl) pa_nil))))) (pw_or1 (pt_cmpR op_ne (pe_callB call_len_str (by rfl) T.n_len PySem.boot_len (pa_cons (pv 0) pa_nil)) (pv 1) (nomark _))))) (pss_one (ps_ret pe_bl)) pss_nil)
      (pss_one (ps_ret (pe_callB (call_all rfl) (by rfl) T.n_all PyProof.Rows.boot_all (pa_cons (pe_lc (tgs := ["sign"]) (cap := []) rfl ⟨rfl, rfl, rfl, rfl, rfl, rfl⟩ (pi_str (pv 0)) (fun _ _ _ _ => (pg_name (i := 0) (show List.Nodup [("sign" : Str)] by decide +kernel) rfl (by first | exact Or.inl rfl | exact Or.inr rfl))) (fun _ _ _ _ => pifs_nil) (fun _ _ _ _ => (pe_cmpR (op_in_tab tU2) (pv 0) (pe_glob (v := .ref TU) (by rfl) tU1 rfl) rfl))) pa_nil))))), ?_⟩
    try dsimp only [cxOf, Cx.nox, Cx.wish]
    rw [show L2.start ["thing", "many"] [V.str z, V.int (m : Int)] = [some (.str z), some (.int (m : Int))] from rfl]
    repeat walk_at "vc"
    refine ⟨_, _, _, _, rfl, TyOf.str z, kit_same "str", ?_⟩
    refine ⟨_, rfl, iteF ?_⟩
    have hz : z.length = m := st.len
    have big : 1000 < sizeLine := by decide
    repeat walk_at "vc"
    refine ⟨_, rfl, (by omega), ?_⟩
    repeat walk_at "vc"
    refine ite2 (fun h => ?_) (fun _ => ?_)
    · exfalso
      have e : (V.int ↑z.length) = V.int (m : Int) := congrArg (fun (n : Nat) => V.int (n : Int)) hz
      simp [e] at h
    repeat walk_at "vc"
    refine i_comp ?_
    repeat walk_at "vc"
    intro D hD
    refine comp_itf (fun n H' ys => Same H H' ∧ H' D = some (.lst ys) ∧ ys = (List.replicate n true).map V.bl) ⟨fresh_same hD, upd_same, rfl⟩ (fun n H' ys p => p.2.1) (fun n H' ys hn p => ?_) (fun H' ys p => ?_)
    · obtain ⟨Sm, hd, rfl⟩ := p
      refine s_name ⟨trivial, i_yes (iteT ?_)⟩
      refine i_op (i_var rfl (i_c ⟨_, rfl, rfl, ?_⟩))
      refine NextC.mk hd hn (by rw [List.length_map, List.length_replicate]; have : z.cps.size = z.length := rfl; omega) ⟨same_upd Sm hD, upd_same, ?_⟩
      have hc : PyProof.Rows.KTD.inKeys (⟨#[z.cps.getD n 0]⟩ : Str) [(("0" : Str), PyProof.Rows.KTD.Dat.flat (PyData.str "1")), ("1", .flat (.str "0"))] = true := by
        have : z.cps.getD n 0 = 48 ∨ z.cps.getD n 0 = 49 := by
          have e : z.cps.getD n 0 = z.cps[n] := by simp [Array.getD, hn]
          rw [e]
          exact st.signs _ (by simp)
        rcases this with e | e
        · rw [e]; decide +kernel
        · rw [e]; decide +kernel
      rw [List.replicate_succ', List.map_append]
      exact congrArg (fun b => List.map V.bl (List.replicate n true) ++ [V.bl b]) hc
    · obtain ⟨Sm, hd, rfl⟩ := p
      refine i_nil ⟨_, _, rfl, SqL.of hd, ?_⟩
      have e : (List.replicate z.cps.size true).all id = true := by simp
      rw [e]
      exact k H' Sm
theorem sc_is_standing : FnScope ["net", "thing"] ["net", "thing"] (defScope (top 20)) := ⟨rfl, rfl, rfl, by decide +kernel, rfl, by decide +kernel, by decide +kernel⟩
theorem ok_isst {f : Addr} {fd : FuncData} (Fu : Fun K "is_standing" "is_standing" (top 20) f fd) (T : Txt K mg TT) (f_is_row : Fn P w K mg base "is_row" ["thing", "many"] 1 spRow) : FnOk P w K mg base CX0 2 f fd ["net", "thing"] (spIsSt (.bl true)) := by
  have S := sc_is_standing
  refine Fu.ok S (fun vs H Q E h => ?_) (fun cdv A outer s H vs Q E hr h => ?_)
  · obtain ⟨a, li, lg, ins, gvs, gs, z, rfl, _⟩ := h
    rfl
  · obtain ⟨a, li, lg, ins, gvs, gs, z, rfl, NA, ok, st, k⟩ := h
    obtain ⟨ha, hi, hg, gts⟩ := id NA
    refine ⟨_, (pss_one (ps_ret (pe_fn f_is_row (hr.mono (by first | decide | omega)) (by rfl) (pa_cons (pv 1) (pa_cons (pe_op op_add (pe_callB call_len_seq (by rfl) T.n_len PySem.boot_len (pa_cons (pe_ix ix_tup (pv 0) pe_int (fun _ _ => rfl)) pa_nil)) (pe_callB call_len_seq (by rfl) T.n_len PySem.boot_len (pa_cons (pe_ix ix_tup (pv 0) pe_int (fun _ _ => rfl)) pa_nil))) pa_nil))))), ?_⟩
    try dsimp only [cxOf, Cx.nox, Cx.wish]
    rw [show L2.start ["net", "thing"] [V.ref a, V.str z] = [some (.ref a), some (.str z)] from rfl]
    have hz : (wiresN ins gs).length = ins.length + gs.length := by
      unfold wiresN
      rw [List.length_append, List.length_map]
    have lg := paired_len NA.gates
    have i4 := ok.i4
    have g7 := ok.g7
    repeat walk_at "vc"
    refine ⟨z, (wiresN ins gs).length, ?_, by omega, st, fun H' Sm => k H' Sm⟩
    rw [List.length_map, lg, hz]; rfl
theorem sc_check_standing : FnScope ["net", "thing"] ["net", "thing"] (defScope (top 21)) := ⟨rfl, rfl, rfl, by decide +kernel, rfl, by decide +kernel, by decide +kernel⟩
theorem ok_check {f : Addr} {fd : FuncData} (Fu : Fun K "check_standing" "check_standing" (top 21) f fd) (T : Txt K mg TT) (f_is_standing : Fn P w K mg base "is_standing" ["net", "thing"] 2 (spIsSt (.bl true))) : FnOk P w K mg base CX0 3 f fd ["net", "thing"] (spIsSt .non) := by
  have S := sc_check_standing
  refine Fu.ok S (fun vs H Q E h => ?_) (fun cdv A outer s H vs Q E hr h => ?_)
  · obtain ⟨a, li, lg, ins, gvs, gs, z, rfl, _⟩ := h
    rfl
  · obtain ⟨a, li, lg, ins, gvs, gs, z, rfl, NA, ok, st, k⟩ := h
    refine ⟨_, (pss_one (ps_if (pt_not (pt_val (pe_fn f_is_standing (hr.mono (by first | decide | omega)) (by rfl) (pa_cons (pv 0) (pa_cons (pv 1) pa_nil))))) pss_never pss_nil)), ?_⟩
    try dsimp only [cxOf, Cx.nox, Cx.wish]
    rw [show L2.start ["net", "thing"] [V.ref a, V.str z] = [some (.ref a), some (.str z)] from rfl]
    repeat walk_at "vc"
    refine ⟨a, li, lg, ins, gvs, gs, z, rfl, NA, ok, st, fun H' Sm => ⟨_, rfl, iteF ?_⟩⟩
    exact k H' Sm
end
set_option Elab.async false
set_option linter.all false
set_option maxRecDepth 100000
set_option maxHeartbeats 4000000

noncomputable def dz (ws : List Str) (z : Str) : List (Key × V) := putAll [] (zipped ws z)
noncomputable def spSg : Sp := fun vs H Q _ => ∃ a li lg ins gvs gs z, vs = [.ref a, .str z] ∧ NAt H a li lg ins gvs gs ∧ NetOk ins gs ∧ StOk (wiresN ins gs).length z ∧ ∀ d H', Same H H' → H d = none → H' d = some (.dK (dz (wiresN ins gs) z)) → Q (.ref d) H'
noncomputable def sT (b : Bool) : Str := ⟨#[if b then 49 else 48]⟩
theorem sg_sT (b : Bool) : sg b = .str (sT b) := sg_c b
theorem join_row (f : Str → Bool) (ws : List Str) : Txt.join Str.empty (ws.map fun w => sT (f w)) = rowT f ws := by
  have e : (Txt.join Str.empty (ws.map fun w => sT (f w))).cps.toList = (rowT f ws).cps.toList := by
    rw [glued_nil, row_list, List.map_map]
    induction ws with
    | nil => rfl
    | cons w ws ih =>
      rw [List.map_cons, List.map_cons, List.flatten_cons, ih]
      rfl
  have e2 := Array.toList_inj.mp e
  show Str.mk (Txt.join Str.empty (ws.map fun w => sT (f w))).cps = Str.mk (rowT f ws).cps
  rw [e2]
theorem sum_ones (f : Str → Bool) : ∀ ws : List Str, ((ws.map fun w => sT (f w)).map (·.length)).sum = ws.length
  | [] => rfl
  | w :: ws => by
    rw [List.map_cons, List.map_cons, List.sum_cons, sum_ones f ws, List.length_cons]
    show 1 + _ = _
    omega
theorem comp_row {K : PySem.W.Frag} {H : Hp} {QD : Addr → Hp → Prop} {d l : Addr} {kvs : List (Key × V)} {ws : List Str} {f : Str → Bool} {te : TE} {σ0 : St} (hwk : ∀ x, wk σ0 (σ0.set 0 (some x)))
    (hd : H d = some (.dK kvs)) (hl : H l = some (.lst (ws.map V.str))) (df : DFn kvs ws f) (few : ws.length ≤ 100) (hte : ∀ x H' (Q : VK), (tDGet (tC (V.ref d)) (tC x)) σ0 H' Q → te (σ0.set 0 (some x)) H' Q)
    (q : ∀ D H', H D = none → Same H H' → H' D = some (.lst ((ws.map fun w => sT (f w)).map V.str)) → QD D H') :
    ∀ D, H D = none → ∃ W : Nat → Nat → Hp → List V → Prop, (∃ m, W 0 m (upd H D (.lst [])) []) ∧ ∀ i m H' ys, W i m H' ys → H' D = some (.lst ys) ∧ (((Itl K l).stop i H' ∧ QD D H') ∨ ((Itl K l).go i H' ∧ ∀ x H1, (Itl K l).yld i H' x H1 → gName 0 x σ0 H1 fun σ2 H2 => wk σ0 σ2 ∧ tYes σ2 H2 fun b H3 =>
      if b = true then te σ2 H3 fun v H4 => H4 D = some (.lst ys) ∧ ys.length < sizeLine ∧ ∃ m', m' < m ∧ W (i + 1) m' (upd H4 D (.lst (ys ++ [v]))) (ys ++ [v]) else ∃ m', m' < m ∧ W (i + 1) m' H3 ys)) := fun D hD => by
  have big : 1000 < sizeLine := by decide
  refine comp_list (QD := QD D) (xs := ws.map V.str) (fun n H' ys => Same H H' ∧ H' D = some (.lst ys) ∧ ys = ((ws.map fun w => sT (f w)).map V.str).take n) ⟨fresh_same hD, upd_same, by simp⟩ (fun n H' ys p => ⟨p.2.1, SqL.of (p.1 _ _ hl)⟩) (fun n x H' ys e p => ?_) (fun H' ys p => ?_)
  · obtain ⟨Sm, hDl, rfl⟩ := p
    have hn : n < (ws.map V.str).length := (List.getElem?_eq_some_iff.mp e).1
    rw [List.getElem?_map] at e
    obtain ⟨z, hz, rfl⟩ : ∃ z, ws[n]? = some z ∧ V.str z = x := by
      cases h : ws[n]? with
      | none => rw [h] at e; cases e
      | some z => rw [h] at e; exact ⟨z, rfl, Option.some.inj e⟩
    refine s_name ⟨hwk _, i_yes (iteT ?_)⟩
    refine hte _ _ _ (i_dget (i_c (i_c ⟨d, sg (f z), rfl, ?_, ?_⟩)))
    · have hv : valV kvs (Sum.inr z : Key) = some (sg (f z)) := df z (List.mem_of_getElem? hz)
      rw [← hv]
      exact DGet.k (k := Sum.inr z) (Sm _ _ hd)
    · rw [List.length_map] at hn
      refine NextC.mk hDl (by rw [List.length_map]; exact hn) (by rw [List.length_take]; omega) ⟨same_upd Sm hD, upd_same, ?_⟩
      rw [List.take_succ, List.getElem?_map, List.getElem?_map, hz, sg_sT]
      rfl
  · obtain ⟨Sm, hDl, rfl⟩ := p
    refine q D H' hD Sm (by rw [hDl, List.take_of_length_le (by simp)])
section
variable {P : Program} {w : World} {K : PySem.W.Frag} {mg : Str → Option Value} {base : Heap} {TT : Addr}
theorem sc_signs_in : FnScope ["net", "standing"] ["net", "standing"] (defScope (top 24)) := ⟨rfl, rfl, rfl, by decide +kernel, rfl, by decide +kernel, by decide +kernel⟩
theorem ok_sg {f : Addr} {fd : FuncData} (Fu : Fun K "signs_in" "signs_in" (top 24) f fd) (T : Txt K mg TT) (f_wires_of : Fn P w K mg base "wires_of" ["net"] 2 spWires) : FnOk P w K mg base CX0 3 f fd ["net", "standing"] spSg := by
  have S := sc_signs_in
  refine Fu.ok S (fun vs H Q E h => ?_) (fun cdv A outer s H vs Q E hr h => ?_)
  · obtain ⟨a, li, lg, ins, gvs, gs, z, rfl, _⟩ := h
    rfl
  · obtain ⟨a, li, lg, ins, gvs, gs, z, rfl, NA, ok, st, k⟩ := h
    refine ⟨_, (pss_one (ps_ret (pe_dzip rfl (by rfl) T.n_dict (by rfl) T.n_zip (pa_cons (pe_fn f_wires_of (hr.mono (by first | decide | omega)) (by rfl) (pa_cons (pv 0) pa_nil)) (pa_cons (pv 1) pa_nil))))), ?_⟩
    try dsimp only [cxOf, Cx.nox, Cx.wish]
    rw [show L2.start ["net", "standing"] [V.ref a, V.str z] = [some (.ref a), some (.str z)] from rfl]
    have wl : (wiresN ins gs).length < 1000 := by
      have i4 := ok.i4
      have g7 := ok.g7
      unfold wiresN
      rw [List.length_append, List.length_map]
      omega
    repeat walk_at "vc"
    show tCons _ _ _ _ _
    repeat walk_at "vc"
    refine ⟨a, li, lg, ins, gvs, gs, rfl, NA, ok, fun l H1 S1 hl h1 => ?_⟩
    repeat walk_at "vc"
    refine ⟨l, wiresN ins gs, z, rfl, SqL.of h1, by rw [st.len]; omega, wl, fun d hd => ?_⟩
    exact k d _ (S1.trans (fresh_same hd)) (Same.free S1 hd) upd_same
end
end K2
set_option Elab.async false
set_option linter.all false
set_option maxRecDepth 100000
set_option maxHeartbeats 4000000
namespace K2
open PySem L2
local macro_rules | `(tactic| walk_at "vc") => `(tactic| first
  | ((refine' (?zz : (?zA → ?zG) → ?zA → ?zG) ?zr ?_); (case zr => with_reducible exact s_seqT); (case zz => exact fun _ q => q); intro D') | ((refine' (?zz : (?zA → ?zG) → ?zA → ?zG) ?zr ?_); (case zr => with_reducible exact s_nameT); (case zz => exact fun _ q => q); intro σ') | ((refine' (?zz : (?zA → ?zG) → ?zA → ?zG) ?zr ?_); (case zr => with_reducible first | exact s_asg | exact s_drop | exact s_ret | exact s_if | exact s_sub | exact s_next | exact i_c | exact i_op | exact i_test | exact i_tB | exact i_and | exact i_or | exact i_not | exact i_andV | exact i_orV | exact i_notV | exact i_ifE | exact i_nil | exact i_cons | exact i_cb | exact i_tup | exact i_lst | exact i_bm | exact i_sl | exact i_nopart | exact i_part | exact s_for | exact s_rng1 | exact s_list | exact s_str | exact i_dget | exact i_yes | exact i_un); (case zz => exact fun _ q => q))
  | ((with_reducible refine' i_var ?hv ?_); (case hv => exact rfl))   | (with_reducible first | refine i_rI0 ?_ | refine i_call ?_ | refine s_strI ?_ | refine iteF ?_ | refine iteT ?_ | refine i_rU ?_)
  | ((with_reducible show ∃ i, V.int _ = V.int i ∧ _); (refine ⟨_, rfl, ?_⟩)) | ((with_reducible show ∃ k, V.bl _ = V.bl k ∧ _); (refine ⟨_, rfl, ?_⟩)) | ((with_reducible show (∃ i, [V.bl _] = [V.int i] ∧ _) ∨ _); (refine Or.inr ⟨_, rfl, ?_⟩))
  | ((with_reducible refine' i_ixL ?ha ?hb ?_); (case ha => exact SqL.of (by assumption)); (case hb => exact rfl)) | ((with_reducible refine' i_ixT ?ha ?hb ?_); (case ha => assumption); (case hb => exact rfl))
  | ((with_reducible show ∃ p _, [V.ref _] = [V.ref p] ∧ (SqL _ _ _ _ ∨ SqT _ _ _ _) ∧ _); (refine' ⟨_, _, rfl, Or.inl (SqL.of ?ha), ?_⟩); (case ha => assumption)) | ((with_reducible refine' s_setL ?ha ?hb ?_); (case ha => assumption); (case hb => exact rfl))
  | ((with_reducible refine' i_eq ?ha ?_); (case ha => exact rfl)) | ((with_reducible refine' i_ne ?ha ?_); (case ha => exact rfl))
  | ((with_reducible show ∃ z, V.str _ = V.str z ∧ _); (refine ⟨_, rfl, ?_⟩)))

section
variable {P : Program} {w : World} {K : PySem.W.Frag} {mg : Str → Option Value} {base : Heap} {TT : Addr}
noncomputable def spHolds (d : Nat) : Sp := fun vs H Q _ => ∃ v a kvs r ns g, vs = [v, .ref a] ∧ RAt H v r ∧ r.dep ≤ d ∧ r.ok ns ∧ H a = some (.dK kvs) ∧ DFn kvs ns g ∧ Q (.bl (r.val g)) H
theorem sg_one (b : Bool) : decide (sg b = V.str "1") = b := by
  cases b
  · decide +kernel
  · decide +kernel
theorem sc_rule_holds : FnScope ["rule", "signs", "kind"] ["rule", "signs"] (defScope (top 22)) := ⟨rfl, rfl, rfl, by decide +kernel, rfl, by decide +kernel, by decide +kernel⟩
theorem ok_holds {f : Addr} {fd : FuncData} (Fu : Fun K "rule_holds" "rule_holds" (top 22) f fd) (T : Txt K mg TT) (hm : mg "rule_holds" = some (.ref f)) (hk : PySem.W.keepIn K (.ref f) = true) (hb : Binds K fd ["rule", "signs"] []) : ∀ d, FnOk P w K mg base CX0 d f fd ["rule", "signs"] (spHolds d)
  | 0 => fnok_false fun vs H Q E ⟨v, a, kvs, r, ns, g, _, _, h, _⟩ => by have := dep_pos r; omega
  | d + 1 => by
    have S := sc_rule_holds
    have f_rule_holds : Fn P w K mg base "rule_holds" ["rule", "signs"] d (spHolds d) := ⟨f, fd, ok_holds Fu T hm hk hb d, hm, hk, hb⟩
    refine Fu.ok S (fun vs H Q E h => ?_) (fun cdv A outer s H vs Q E hr h => ?_)
    · obtain ⟨v, a, kvs, r, ns, g, rfl, _⟩ := h
      rfl
    · obtain ⟨v, a, kvs, r, ns, g, rfl, ra, hd, rok, ha, hf, q⟩ := h
      have hu := hu_of hr
      refine ⟨_, (pss_cons (ps_set (i := 2) S.nd rfl (by first | exact Or.inl rfl | exact Or.inr rfl) (pe_ix ix_tup (pv 0) pe_int (fun _ _ => rfl)))
      (pss_cons (ps_if (pt_cmpR op_eq (pv 2) pe_str (nomark _)) (pss_one (ps_ret (pe_cmpR op_eq (pe_dget hu (pv 1) (pe_ix ix_tup (pv 0) pe_int (fun _ _ => rfl)) (fun _ _ => rfl)) pe_str (nomark _)))) pss_nil)
      (pss_cons (ps_if (pt_cmpR op_eq (pv 2) pe_str (nomark _)) (pss_one (ps_ret (pe_not (pe_fn f_rule_holds (hr.mono (by first | decide | omega)) (by rfl) (pa_cons (pe_ix ix_tup (pv 0) pe_int (fun _ _ => rfl)) (pa_cons (pv 1) pa_nil)))))) pss_nil)
      (pss_cons (ps_if (pt_cmpR op_eq (pv 2) pe_str (nomark _)) (pss_one (ps_ret (pe_and (pe_fn f_rule_holds (hr.mono (by first | decide | omega)) (by rfl) (pa_cons (pe_ix ix_tup (pv 0) pe_int (fun _ _ => rfl)) (pa_cons (pv 1) pa_nil))) (pe_one (pe_fn f_rule_holds (hr.mono (by first | decide | omega)) (by rfl) (pa_cons (pe_ix ix_tup (pv 0) pe_int (fun _ _ => rfl)) (pa_cons (pv 1) pa_nil))))))) pss_nil)
      (pss_one (ps_ret (pe_or (pe_fn f_rule_holds (hr.mono (by first | decide | omega)) (by rfl) (pa_cons (pe_ix ix_tup (pv 0) pe_int (fun _ _ => rfl)) (pa_cons (pv 1) pa_nil))) (pe_one (pe_fn f_rule_holds (hr.mono (by first | decide | omega)) (by rfl) (pa_cons (pe_ix ix_tup (pv 0) pe_int (fun _ _ => rfl)) (pa_cons (pv 1) pa_nil))))))))))), ?_⟩
      try dsimp only [cxOf, Cx.nox, Cx.wish]
      rw [show L2.start ["rule", "signs", "kind"] [v, V.ref a] = [some v, some (.ref a), none] from rfl]
      cases ra with
      | @w b n hb =>
        repeat (first | walk_at "vc" | with_reducible refine i_comp ?_)
        refine ifT (by decide +kernel) ?_
        repeat (first | walk_at "vc" | with_reducible refine i_comp ?_)
        have hv : valV kvs (Sum.inr n : Key) = some (sg (g n)) := hf n rok
        refine ⟨a, sg (g n), rfl, by rw [← hv]; exact DGet.k (k := Sum.inr n) ha, ?_⟩
        repeat (first | walk_at "vc" | with_reducible refine i_comp ?_)
        refine i_eq (by cases g n <;> rfl) ?_
        rw [sg_one]
        exact q
      | @no b u r hb hr1 =>
        repeat (first | walk_at "vc" | with_reducible refine i_comp ?_)
        refine ifF (by decide +kernel) ?_
        repeat (first | walk_at "vc" | with_reducible refine i_comp ?_)
        refine ifT (by decide +kernel) ?_
        repeat (first | walk_at "vc" | with_reducible refine i_comp ?_)
        exact ⟨u, a, kvs, r, ns, g, rfl, hr1, by simp only [Rl.dep] at hd; omega, rok, ha, hf, ⟨_, rfl, q⟩⟩
      | @an b u x r1 r2 hb hr1 hr2 =>
        repeat (first | walk_at "vc" | with_reducible refine i_comp ?_)
        refine ifF (by decide +kernel) ?_
        repeat (first | walk_at "vc" | with_reducible refine i_comp ?_)
        refine ifF (by decide +kernel) ?_
        repeat (first | walk_at "vc" | with_reducible refine i_comp ?_)
        refine ifT (by decide +kernel) ?_
        repeat (first | walk_at "vc" | with_reducible refine i_comp ?_)
        simp only [Rl.dep] at hd
        refine ⟨u, a, kvs, r1, ns, g, rfl, hr1, by omega, rok.1, ha, hf, ⟨_, rfl, ?_⟩⟩
        have e : Rl.val g (Rl.an r1 r2) = (r1.val g && r2.val g) := rfl
        rw [e] at q
        cases hv : r1.val g with
        | false => rw [hv] at q; exact iteF q
        | true =>
          rw [hv] at q
          refine iteT ?_
          repeat (first | walk_at "vc" | with_reducible refine i_comp ?_)
          exact ⟨x, a, kvs, r2, ns, g, rfl, hr2, by omega, rok.2, ha, hf, q⟩
      | @orr b u x r1 r2 hb hr1 hr2 =>
        repeat (first | walk_at "vc" | with_reducible refine i_comp ?_)
        refine ifF (by decide +kernel) ?_
        repeat (first | walk_at "vc" | with_reducible refine i_comp ?_)
        refine ifF (by decide +kernel) ?_
        repeat (first | walk_at "vc" | with_reducible refine i_comp ?_)
        refine ifF (by decide +kernel) ?_
        repeat (first | walk_at "vc" | with_reducible refine i_comp ?_)
        simp only [Rl.dep] at hd
        refine ⟨u, a, kvs, r1, ns, g, rfl, hr1, by omega, rok.1, ha, hf, ⟨_, rfl, ?_⟩⟩
        have e : Rl.val g (Rl.orr r1 r2) = (r1.val g || r2.val g) := rfl
        rw [e] at q
        cases hv : r1.val g with
        | true => rw [hv] at q; exact iteT q
        | false =>
          rw [hv] at q
          refine iteF ?_
          repeat (first | walk_at "vc" | with_reducible refine i_comp ?_)
          exact ⟨x, a, kvs, r2, ns, g, rfl, hr2, by omega, rok.2, ha, hf, q⟩
noncomputable def spWorth (d : Nat) : Sp := fun vs H Q _ => ∃ v a kvs r ns g, vs = [v, .ref a] ∧ RAt H v r ∧ r.dep ≤ d ∧ r.ok ns ∧ H a = some (.dK kvs) ∧ DFn kvs ns g ∧ Q (sg (r.val g)) H
theorem sc_rule_worth : FnScope ["rule", "signs"] ["rule", "signs"] (defScope (top 23)) := ⟨rfl, rfl, rfl, by decide +kernel, rfl, by decide +kernel, by decide +kernel⟩
theorem ok_worth {f : Addr} {fd : FuncData} (Fu : Fun K "rule_worth" "rule_worth" (top 23) f fd) (T : Txt K mg TT) (f_rule_holds : Fn P w K mg base "rule_holds" ["rule", "signs"] 10 (spHolds 10)) : FnOk P w K mg base CX0 11 f fd ["rule", "signs"] (spWorth 10) := by
  have S := sc_rule_worth
  refine Fu.ok S (fun vs H Q E h => ?_) (fun cdv A outer s H vs Q E hr h => ?_)
  · obtain ⟨v, a, kvs, r, ns, g, rfl, _⟩ := h
    rfl
  · obtain ⟨v, a, kvs, r, ns, g, rfl, ra, hd, rok, ha, hf, q⟩ := h
    refine ⟨_, (pss_one (ps_ret (pe_ifExp (pt_val (pe_fn f_rule_holds (hr.mono (by first | decide | omega)) (by rfl) (pa_cons (pv 0) (pa_cons (pv 1) pa_nil)))) pe_str pe_str))), ?_⟩
    try dsimp only [cxOf, Cx.nox, Cx.wish]
    rw [show L2.start ["rule", "signs"] [v, V.ref a] = [some v, some (.ref a)] from rfl]
    repeat (first | walk_at "vc" | with_reducible refine i_comp ?_)
    refine ⟨v, a, kvs, r, ns, g, rfl, ra, hd, rok, ha, hf, ⟨_, rfl, ?_⟩⟩
    cases hv : r.val g with
    | true => rw [hv] at q; exact iteT q
    | false => rw [hv] at q; exact iteF q
end
set_option Elab.async false
set_option linter.all false
set_option maxRecDepth 100000
set_option maxHeartbeats 4000000

noncomputable def flipT (z : Str) (i : Nat) : Str := if (z.cps.getD i 0 == 49) = true then "0" else "1"
noncomputable def turnT (z : Str) (i : Nat) : Str := (Txt.slice z none (some (i : Int)) ++ flipT z i) ++ Txt.slice z (some ((i : Int) + 1)) none
noncomputable def spTurned : Sp := fun vs H Q _ => ∃ (z : Str) (n i : Nat), vs = [.str z, .int (i : Int)] ∧ StOk n z ∧ i < n ∧ n ≤ 40 ∧ Q (.str (turnT z i)) H
section
variable {P : Program} {w : World} {K : PySem.W.Frag} {mg : Str → Option Value} {base : Heap} {TT : Addr}
theorem at_sign {n : Nat} {z : Str} (st : StOk n z) {i : Nat} (hi : i < n) : atI z.cps.toList ((i : Nat) : Int) = some (z.cps.getD i 0) := by
  have hl := st.len
  refine atI_nat ?_
  simp [Array.getD, hl, hi]
theorem sc_turned_at : FnScope ["standing", "place"] ["standing", "place"] (defScope (top 26)) := ⟨rfl, rfl, rfl, by decide +kernel, rfl, by decide +kernel, by decide +kernel⟩
theorem ok_turned {f : Addr} {fd : FuncData} (Fu : Fun K "turned_at" "turned_at" (top 26) f fd) (T : Txt K mg TT) : FnOk P w K mg base CX0 1 f fd ["standing", "place"] spTurned := by
  have S := sc_turned_at
  refine Fu.ok S (fun vs H Q E h => ?_) (fun cdv A outer s H vs Q E hr h => ?_)
  · obtain ⟨z, n, i, rfl, _⟩ := h
    rfl
  · obtain ⟨z, n, i, rfl, st, hi, hn, k⟩ := h
    obtain ⟨TU, tU1, tU2⟩ := T.tU
    refine ⟨_, (pss_one (ps_ret (pe_op op_add_str (pe_op op_add_str (pe_slice sl_str (pv 0) po_none (po_some (pv 1))) (pe_ix (ix_turn tU2) (pe_glob (v := .ref TU) (by rfl) tU1 rfl) (pe_ix ix_str (pv 0) (pv 1) (fun _ _ => rfl)) (fun _ _ => rfl))) (pe_slice sl_str (pv 0) (po_some (pe_op op_add (pv 1) pe_int)) po_none)))), ?_⟩
    try dsimp only [cxOf, Cx.nox, Cx.wish]
    rw [show L2.start ["standing", "place"] [V.str z, V.int (i : Int)] = [some (.str z), some (.int (i : Int))] from rfl]
    have hz : z.length = n := st.len
    have big : 1000 < sizeLine := by decide
    repeat (first | walk_at "vc" | with_reducible refine i_comp ?_)
    have s1 := Txt.slice_le z none (some (i : Int))
    have s2 := Txt.slice_le z (some ((i : Int) + 1)) none
    have fl : (flipT z i).length = 1 := by
      unfold flipT
      split
      · decide +kernel
      · decide +kernel
    refine i_slS (by omega) ?_
    refine i_op (i_c ?_)
    refine i_op (i_var rfl (i_var rfl (i_ixS (by omega) (at_sign st hi) ?_)))
    have e := sign_sg st hi
    unfold signV at e
    rw [e]
    have step : ∀ (b : Bool) (G : VK), G (.str (if b = true then "0" else "1")) H → rIxTurn TU (.ref TU) (sg b) H G := fun b G g => by
      cases b
      · exact ⟨rfl, .inl ⟨rfl, g⟩⟩
      · exact ⟨rfl, .inr ⟨rfl, g⟩⟩
    refine step _ _ ?_
    show ∃ i_1 j, V.str _ = V.str i_1 ∧ V.str (flipT z i) = V.str j ∧ _
    have l1 : (Txt.slice z none (some (i : Int)) ++ flipT z i).length = (Txt.slice z none (some (i : Int))).length + (flipT z i).length := Array.size_append
    refine ⟨_, _, rfl, rfl, by omega, ?_⟩
    repeat (first | walk_at "vc" | with_reducible refine i_comp ?_)
    refine i_slS (by omega) ?_
    exact ⟨_, _, rfl, rfl, by rw [l1]; omega, k⟩
end
set_option Elab.async false
set_option linter.all false
set_option maxRecDepth 100000
set_option maxHeartbeats 4000000

noncomputable def stepOf (f : Str → Bool) (z : Str) (p : (Str × Rl) × Nat) : Option (Str × Str) := if (p.1.2.val f == (z.cps.getD p.2 0 == 49)) = true then none else some (p.1.1, turnT z p.2)
noncomputable def stepsN (ins : List Str) (gs : List (Str × Rl)) (z : Str) : List (Str × Str) := (gs.zipIdx ins.length).filterMap (stepOf (sgn (wiresN ins gs) z) z)
noncomputable def StAt (H : Hp) (v : V) (p : Str × Str) : Prop := ∃ b, v = .ref b ∧ H b = some (.tup [.str p.1, .str p.2])
theorem StAt.mono {H H' : Hp} (hs : KeepT H H') {v : V} {p : Str × Str} (h : StAt H v p) : StAt H' v p := let ⟨b, e, q⟩ := h; ⟨b, e, hs _ _ q⟩
theorem steps_mono {H H' : Hp} (hs : KeepT H H') : ∀ {vs : List V} {ps : List (Str × Str)}, Paired (StAt H) vs ps → Paired (StAt H') vs ps
  | _, _, .nil => .nil
  | _, _, .cons h t => .cons (h.mono hs) (steps_mono hs t)
theorem paired_snoc2 {α β : Type} {F : α → β → Prop} : ∀ {xs : List α} {ys : List β} {x : α} {y : β}, Paired F xs ys → F x y → Paired F (xs ++ [x]) (ys ++ [y])
  | _, _, _, _, .nil, h => .cons h .nil
  | _, _, _, _, .cons a t, h => .cons a (paired_snoc2 t h)
noncomputable def spSteps : Sp := fun vs H Q _ => ∃ a li lg ins gvs gs z, vs = [.ref a, .str z] ∧ NAt H a li lg ins gvs gs ∧ NetOk ins gs ∧ (wiresN ins gs).Nodup ∧ StOk (wiresN ins gs).length z ∧
  ∀ l vs' H', Same H H' → H l = none → H' l = some (.lst vs') → Paired (StAt H') vs' (stepsN ins gs z) → Q (.ref l) H'
theorem sg_eq (a b : Bool) : decide (sg a = sg b) = (a == b) := by
  cases a <;> cases b <;> decide +kernel
section
variable {P : Program} {w : World} {K : PySem.W.Frag} {mg : Str → Option Value} {base : Heap} {TT : Addr}
theorem sc_steps_from : FnScope ["net", "standing", "signs", "steps", "place", "gate"] ["net", "standing"] (defScope (top 27)) := ⟨rfl, rfl, rfl, by decide +kernel, rfl, by decide +kernel, by decide +kernel⟩
theorem ok_steps {f : Addr} {fd : FuncData} (Fu : Fun K "steps_from" "steps_from" (top 27) f fd) (T : Txt K mg TT) (f_signs_in : Fn P w K mg base "signs_in" ["net", "standing"] 3 spSg) (f_rule_worth : Fn P w K mg base "rule_worth" ["rule", "signs"] 11 (spWorth 10)) (f_turned_at : Fn P w K mg base "turned_at" ["standing", "place"] 1 spTurned) :
    FnOk P w K mg base CX0 12 f fd ["net", "standing"] spSteps := by
  have S := sc_steps_from
  refine Fu.ok S (fun vs H Q E h => ?_) (fun cdv A outer s H vs Q E hr h => ?_)
  · obtain ⟨a, li, lg, ins, gvs, gs, z, rfl, _⟩ := h
    rfl
  · obtain ⟨a, li, lg, ins, gvs, gs, z, rfl, NA, ok, nd, st, k⟩ := h
    refine ⟨_, (pss_cons (ps_set (i := 2) S.nd rfl (by first | exact Or.inl rfl | exact Or.inr rfl) (pe_fn f_signs_in (hr.mono (by first | decide | omega)) (by rfl) (pa_cons (pv 0) (pa_cons (pv 1) pa_nil))))
      (pss_cons (ps_set (i := 3) S.nd rfl (by first | exact Or.inl rfl | exact Or.inr rfl) (pe_lst pa_nil))
      (pss_cons (ps_for PassesOwn.never rfl (pi_enumS (by rfl) T.n_enumerate (pa_cons (pe_ix ix_tup (pv 0) pe_int (fun _ _ => rfl)) pa_nil) (pk_cons (pe_callB call_len_seq (by rfl) T.n_len PySem.boot_len (pa_cons (pe_ix ix_tup (pv 0) pe_int (fun _ _ => rfl)) pa_nil)) pk_nil)) (pg_tup rfl (pgs_cons (pg_name (i := 4) S.nd rfl (by first | exact Or.inl rfl | exact Or.inr rfl)) (pgs_cons (pg_name (i := 5) S.nd rfl (by first | exact Or.inl rfl | exact Or.inr rfl)) pgs_nil)))
      (pss_one (ps_if (pt_cmpR op_ne (pe_fn f_rule_worth (hr.mono (by first | decide | omega)) (by rfl) (pa_cons (pe_ix ix_tup (pv 5) pe_int (fun _ _ => rfl)) (pa_cons (pv 2) pa_nil))) (pe_ix ix_str (pv 1) (pv 4) (fun _ _ => rfl)) (nomark _)) (pss_one (ps_expr (pe_bm PySem.F.plainAttrs_list PySem.F.slot_list_append PySem.F.type_list_append mt_append (pv 3) (pa_cons (pe_tup (pa_cons (pe_ix ix_tup (pv 5) pe_int (fun _ _ => rfl)) (pa_cons (pe_fn f_turned_at (hr.mono (by first | decide | omega)) (by rfl) (pa_cons (pv 1) (pa_cons (pv 4) pa_nil))) pa_nil))) pa_nil)))) pss_nil)))
      (pss_one (ps_ret (pv 3)))))), ?_⟩
    try dsimp only [cxOf, Cx.nox, Cx.wish]
    rw [show L2.start ["net", "standing", "signs", "steps", "place", "gate"] [V.ref a, V.str z] = [some (.ref a), some (.str z), none, none, none, none] from rfl]
    have i4 := ok.i4
    have g7 := ok.g7
    have lgn := paired_len NA.gates
    have wl : (wiresN ins gs).length = ins.length + gs.length := by unfold wiresN; rw [List.length_append, List.length_map]
    have big : 1000 < sizeLine := by decide
    repeat (first | walk_at "vc" | with_reducible refine i_comp ?_)
    refine ⟨a, li, lg, ins, gvs, gs, z, rfl, NA, ok, st, fun d H1 S1 _ hd => ?_⟩
    have df := dfn_zip nd st
    change DFn (dz (wiresN ins gs) z) _ _ at df
    generalize dz (wiresN ins gs) z = kvs at hd df
    repeat (first | walk_at "vc" | with_reducible refine i_comp ?_)
    refine ⟨by simp [sizeLine], fun l hl => ?_⟩
    generalize hE : upd _ l _ = H2
    have S2 : Same H1 H2 := by rw [← hE]; exact fresh_same hl
    have q2 : H2 l = some (.lst []) := by rw [← hE]; exact upd_same
    clear hE
    have S12 := S1.trans S2
    have hlH : H l = none := Same.free S1 hl
    have NA2 := NA.same S12
    have hd2 := S2 _ _ hd
    have dl : d ≠ l := ne_of_none hd hl
    obtain ⟨ha, hi, hg, gts⟩ := id NA2
    repeat (first | walk_at "vc" | with_reducible refine i_comp ?_)
    show tCons _ _ _ _ _
    repeat (first | walk_at "vc" | with_reducible refine i_comp ?_)
    refine ⟨lg, _, rfl, rfl, by rw [List.length_map]; omega, ⟨_, SqL.of hg⟩, ?_⟩
    have nlg : lg ≠ l := ne_of_none NA.hg hlH
    refine for_enumS (xs := gvs) (fun i σ H' => (∃ x4 x5 vs', σ = [some (.ref a), some (.str z), some (.ref d), some (.ref l), x4, x5] ∧ H' l = some (.lst vs') ∧ vs'.length ≤ i ∧ Paired (StAt H') vs' (((gs.zipIdx ins.length).take i).filterMap (stepOf (sgn (wiresN ins gs) z) z))) ∧ Same H H' ∧ H' d = some (.dK kvs))
      ⟨⟨_, _, [], rfl, q2, by simp, by simp; exact .nil⟩, S12, hd2⟩ (fun i σ H' _ pv => SqL.of (pv.2.1 _ _ NA.hg)) (fun i x σ H' t hx pv ht => ?_) (fun σ H' pv => ?_)
    · obtain ⟨⟨x4, x5, vs', rfl, hl', hlen, hp⟩, SS, hd'⟩ := pv
      have hig : i < gvs.length := (List.getElem?_eq_some_iff.mp hx).1
      obtain ⟨g, hgi, b, rv, rfl, hb, hrv⟩ := paired_at NA.gates i x hx
      have S3 := fresh_same (o := .tup [.int (((ins.map V.str).length : Int) + (i : Nat)), .ref b]) ht
      refine ⟨t, _, rfl, SqT.of upd_same, rfl, ?_⟩
      refine ⟨_, _, rfl, s_name ⟨_, _, rfl, s_name ?_⟩⟩
      have hl3 := S3 _ _ hl'
      have hd3 := S3 _ _ hd'
      have SS3 := SS.trans S3
      have hp3 := steps_mono (Same.tups S3) hp
      generalize upd H' t (.tup [.int (((ins.map V.str).length : Int) + (i : Nat)), .ref b]) = H3 at *
      have hb3 := SS3 _ _ hb
      have hr3 := hrv.mono (Same.tups SS3)
      have gmm : g ∈ gs := List.mem_of_getElem? hgi
      have ep : (((ins.map V.str).length : Int) + (i : Nat)) = ((ins.length + i : Nat) : Int) := by rw [List.length_map]; omega
      rw [ep]
      obtain ⟨rok, rdep⟩ := ok.rules g gmm
      have hpl : ins.length + i < (wiresN ins gs).length := by omega
      have hzi : (gs.zipIdx ins.length)[i]? = some (g, ins.length + i) := by rw [List.getElem?_zipIdx, hgi]; rfl
      refine ⟨rfl, ?_⟩
      repeat (first | walk_at "vc" | with_reducible refine i_comp ?_)
      refine ⟨rv, d, kvs, g.2, _, _, rfl, hr3, rdep, rok, hd3, df, ?_⟩
      generalize hv : g.2.val (sgn (wiresN ins gs) z) = bv
      have e := sign_sg st hpl
      unfold signV at e
      have zl : z.length = (wiresN ins gs).length := st.len
      repeat (first | walk_at "vc" | with_reducible refine i_comp ?_)
      refine i_ixS (by omega) (at_sign st hpl) ?_
      rw [e]
      refine i_ne (by cases bv <;> cases (z.cps.getD (ins.length + i) 0 == 49) <;> rfl) ?_
      rw [sg_eq]
      refine ⟨_, rfl, ?_⟩
      have tk : ((gs.zipIdx ins.length).take (i + 1)).filterMap (stepOf (sgn (wiresN ins gs) z) z) = ((gs.zipIdx ins.length).take i).filterMap (stepOf (sgn (wiresN ins gs) z) z) ++ (stepOf (sgn (wiresN ins gs) z) z (g, ins.length + i)).toList := by
        rw [List.take_succ, hzi, List.filterMap_append]
        cases h : stepOf (sgn (wiresN ins gs) z) z (g, ins.length + i) <;> simp [h]
      have so : stepOf (sgn (wiresN ins gs) z) z (g, ins.length + i) = if (bv == (z.cps.getD (ins.length + i) 0 == 49)) = true then none else some (g.1, turnT z (ins.length + i)) := by
        unfold stepOf
        rw [hv]
      cases hc : (bv == (z.cps.getD (ins.length + i) 0 == 49)) with
      | true =>
        refine iteF ?_
        rw [hc] at so
        refine ⟨⟨_, _, vs', rfl, hl3, by omega, ?_⟩, SS3, hd3⟩
        rw [tk, so]
        simpa using hp3
      | false =>
        refine iteT ?_
        rw [hc] at so
        repeat (first | walk_at "vc" | with_reducible refine i_comp ?_)
        refine ⟨i_tyL hl3, ?_⟩
        repeat (first | walk_at "vc" | with_reducible refine i_comp ?_)
        refine ⟨z, _, ins.length + i, rfl, st, hpl, by omega, ?_⟩
        repeat (first | walk_at "vc" | with_reducible refine i_comp ?_)
        refine ⟨by simp [sizeLine], fun q hq => ?_⟩
        generalize hE : upd _ q _ = H4
        have S4 : Same H3 H4 := by rw [← hE]; exact fresh_same hq
        have q4 : H4 q = some (.tup [.str g.1, .str (turnT z (ins.length + i))]) := by rw [← hE]; exact upd_same
        clear hE
        have hl4 := S4 _ _ hl3
        have hd4 := S4 _ _ hd3
        have nql : q ≠ l := fun e => by rw [e, hl3] at hq; cases hq
        repeat (first | walk_at "vc" | with_reducible refine i_comp ?_)
        refine i_app hl4 (by omega) ?_
        have kt : KeepT H4 (upd H4 l (.lst (vs' ++ [.ref q]))) := fun b xs e => by
          have : b ≠ l := fun x => by rw [x, hl4] at e; cases e
          rw [upd_ne this]; exact e
        refine ⟨⟨_, _, vs' ++ [.ref q], rfl, upd_same, by simp; omega, ?_⟩, same_upd (SS3.trans S4) hlH, by rw [upd_ne dl]; exact hd4⟩
        rw [tk, so]
        exact paired_snoc2 (steps_mono kt (steps_mono (Same.tups S4) hp3)) ⟨q, rfl, kt _ _ q4⟩
    · obtain ⟨⟨x4, x5, vs', rfl, hl', hlen, hp⟩, SS, hd'⟩ := pv
      refine s_ret (te := tVar 3) (D := { nx := fun x H' => Q V.non H', rt := Q }) (i_var rfl ?_)
      refine k l vs' H' SS hlH hl' ?_
      have e : (gs.zipIdx ins.length).length = gvs.length := by rw [List.length_zipIdx, lgn]
      rw [← e, List.take_length] at hp
      exact hp
end
set_option Elab.async false
set_option linter.all false
set_option maxRecDepth 100000
set_option maxHeartbeats 4000000

noncomputable def askedN (ins : List Str) (gs : List (Str × Rl)) (z : Str) : List Str := (gs.filter fun g => !(g.2.val (sgn (wiresN ins gs) z) == sgn (wiresN ins gs) z g.1)).map (·.1)
theorem steps_names_aux {f : Str → Bool} {z : Str} : ∀ (gs : List (Str × Rl)) (n : Nat), (∀ (j : Nat) g, gs[j]? = some g → (z.cps.getD (n + j) 0 == 49) = f g.1) → ((gs.zipIdx n).filterMap (stepOf f z)).map (·.1) = (gs.filter fun g => !(g.2.val f == f g.1)).map (·.1)
  | [], _, _ => rfl
  | g :: gs, n, h => by
    have h0 := h 0 g rfl
    have ih := steps_names_aux gs (n + 1) fun j g' e => by
      have q := h (j + 1) g' (by simpa using e)
      rw [show n + 1 + j = n + (j + 1) from by omega]
      exact q
    rw [List.zipIdx_cons, List.filterMap_cons, List.filter_cons]
    have so : stepOf f z (g, n) = if (g.2.val f == f g.1) = true then none else some (g.1, turnT z n) := by
      unfold stepOf
      rw [← h0]
      rfl
    rw [so]
    cases (g.2.val f == f g.1) with
    | true => simpa using ih
    | false => simpa using ih
theorem steps_names {ins : List Str} {gs : List (Str × Rl)} {z : Str} (nd : (wiresN ins gs).Nodup) : (stepsN ins gs z).map (·.1) = askedN ins gs z := by
  refine steps_names_aux gs ins.length fun j g e => ?_
  have hj : j < gs.length := (List.getElem?_eq_some_iff.mp e).1
  have hw : (wiresN ins gs)[ins.length + j]? = some g.1 := by
    unfold wiresN
    rw [List.getElem?_append_right (by omega), List.getElem?_map, show ins.length + j - ins.length = j from by omega, e]
    rfl
  have hl : ins.length + j < (wiresN ins gs).length := (List.getElem?_eq_some_iff.mp hw).1
  have hi : (wiresN ins gs).idxOf g.1 = ins.length + j := by
    have e2 : (wiresN ins gs)[ins.length + j] = g.1 := (List.getElem?_eq_some_iff.mp hw).2
    rw [← e2]
    exact List.Nodup.idxOf_getElem nd _ hl
  unfold sgn
  rw [hi]
noncomputable def spAsked : Sp := fun vs H Q _ => ∃ a li lg ins gvs gs z, vs = [.ref a, .str z] ∧ NAt H a li lg ins gvs gs ∧ NetOk ins gs ∧ (wiresN ins gs).Nodup ∧ StOk (wiresN ins gs).length z ∧
  ∀ l H', Same H H' → H l = none → H' l = some (.lst ((askedN ins gs z).map V.str)) → Q (.ref l) H'
section
variable {P : Program} {w : World} {K : PySem.W.Frag} {mg : Str → Option Value} {base : Heap} {TT : Addr}
theorem sc_asked_gates : FnScope ["net", "standing"] ["net", "standing"] (defScope (top 28)) := ⟨rfl, rfl, rfl, by decide +kernel, rfl, by decide +kernel, by decide +kernel⟩
theorem ok_asked {f : Addr} {fd : FuncData} (Fu : Fun K "asked_gates" "asked_gates" (top 28) f fd) (T : Txt K mg TT) (f_check_standing : Fn P w K mg base "check_standing" ["net", "thing"] 3 (spIsSt .non)) (f_steps_from : Fn P w K mg base "steps_from" ["net", "standing"] 12 spSteps) :
    FnOk P w K mg base CX0 13 f fd ["net", "standing"] spAsked := by
  have S := sc_asked_gates
  refine Fu.ok S (fun vs H Q E h => ?_) (fun cdv A outer s H vs Q E hr h => ?_)
  · obtain ⟨a, li, lg, ins, gvs, gs, z, rfl, _⟩ := h
    rfl
  · obtain ⟨a, li, lg, ins, gvs, gs, z, rfl, NA, ok, nd, st, k⟩ := h
    refine ⟨_, (pss_cons (ps_expr (pe_fn f_check_standing (hr.mono (by first | decide | omega)) (by rfl) (pa_cons (pv 0) (pa_cons (pv 1) pa_nil))))
      (pss_one (ps_ret (pe_lc (tgs := ["step"]) (cap := []) rfl ⟨rfl, rfl, rfl, rfl, rfl, rfl⟩ (pi_list (pe_fn f_steps_from (hr.mono (by first | decide | omega)) (by rfl) (pa_cons (pv 0) (pa_cons (pv 1) pa_nil)))) (fun _ _ _ _ => (pg_name (i := 0) (show List.Nodup [("step" : Str)] by decide +kernel) rfl (by first | exact Or.inl rfl | exact Or.inr rfl))) (fun _ _ _ _ => pifs_nil) (fun _ _ _ _ => (pe_ix (ix_tupK (K := K) rfl) (pv 0) pe_int (fun _ _ => rfl))))))), ?_⟩
    try dsimp only [cxOf, Cx.nox, Cx.wish]
    rw [show L2.start ["net", "standing"] [V.ref a, V.str z] = [some (.ref a), some (.str z)] from rfl]
    repeat (first | walk_at "vc" | with_reducible refine i_comp ?_)
    refine ⟨a, li, lg, ins, gvs, gs, z, rfl, NA, ok, st, fun H1 S1 => ?_⟩
    repeat (first | walk_at "vc" | with_reducible refine i_comp ?_)
    try refine i_comp ?_
    repeat (first | walk_at "vc" | with_reducible refine i_comp ?_)
    refine ⟨a, li, lg, ins, gvs, gs, z, rfl, NA.same S1, ok, nd, st, fun l vs' H2 S2 hl h2 pr => ⟨l, rfl, ⟨_, SqL.of h2⟩, fun D hD => ?_⟩⟩
    have g7 := ok.g7
    have big : 1000 < sizeLine := by decide
    have lv := paired_len pr
    have ls : (stepsN ins gs z).length ≤ gs.length := by
      have := List.length_filterMap_le (stepOf (sgn (wiresN ins gs) z) z) (gs.zipIdx ins.length)
      rw [List.length_zipIdx] at this
      exact this
    rw [← steps_names nd] at k
    refine comp_list (xs := vs') (fun n H' ys => Same H2 H' ∧ H' D = some (.lst ys) ∧ ys = (((stepsN ins gs z).map (·.1)).map V.str).take n) ⟨fresh_same hD, upd_same, by simp⟩ (fun n H' ys p => ⟨p.2.1, SqL.of (p.1 _ _ h2)⟩) (fun n x H' ys e p => ?_) (fun H' ys p => ?_)
    · obtain ⟨Sm, hd, rfl⟩ := p
      obtain ⟨y, hy, b, rfl, hb⟩ := paired_at pr n x e
      have hn : n < vs'.length := (List.getElem?_eq_some_iff.mp e).1
      refine s_name ⟨trivial, ?_⟩
      refine i_yes (iteT ?_)
      refine i_op (i_var rfl (i_c (i_ixT (Sm _ _ hb) rfl (NextC.mk hd hn (by rw [List.length_take]; omega) ⟨same_upd Sm hD, upd_same, ?_⟩))))
      rw [List.take_succ, List.getElem?_map, List.getElem?_map, hy]
      rfl
    · obtain ⟨Sm, hd, rfl⟩ := p
      refine k D H' (S1.trans (S2.trans Sm)) (Same.free (S1.trans S2) hD) ?_
      rw [hd, List.take_of_length_le (by rw [List.length_map, List.length_map]; omega)]
end
set_option Elab.async false
set_option linter.all false
set_option maxRecDepth 100000
set_option maxHeartbeats 2000000
theorem filt_range {xs : Array Nat} : ∀ (j a : Nat), a + j ≤ xs.size → ((List.range j).map fun k => a + k).filterMap (xs[·]?) = (xs.toList.drop a).take j
  | 0, a, _ => by simp
  | j + 1, a, h => by
    rw [List.range_succ, List.map_append, List.filterMap_append, filt_range j a (by omega), List.take_succ]
    have e : (xs.toList.drop a)[j]? = xs[a + j]? := by rw [List.getElem?_drop]; simp
    rw [e]
    have q : xs[a + j]? = some (xs[a + j]'(by omega)) := by rw [Array.getElem?_eq_getElem]
    simp [q]
theorem slice_list {z : Str} {a b : Nat} {lo hi : Option Int} (hl : PySem.Builtin.Str.strSliceIndices lo hi 1 z.length = (List.range (b - a)).map fun k => a + k) (hb : b ≤ z.cps.size) (hab : a ≤ b) : (Txt.slice z lo hi).cps.toList = (z.cps.toList.drop a).take (b - a) := by
  unfold Txt.slice
  rw [hl]
  split
  · rename_i h
    have h : b - a = z.length := by simpa using h
    have h' : z.length = z.cps.size := rfl
    have a0 : a = 0 := by omega
    subst a0
    rw [List.drop_zero, List.take_of_length_le (by rw [Array.length_toList]; omega)]
  · exact filt_range (b - a) a (by omega)
theorem slice_to {z : Str} {j : Nat} (h : j ≤ z.cps.size) : (Txt.slice z none (some (j : Int))).cps.toList = z.cps.toList.take j := by
  have h' : z.length = z.cps.size := rfl
  refine (slice_list (a := 0) (b := j) ?_ h (Nat.zero_le _)).trans (by simp)
  unfold PySem.Builtin.Str.strSliceIndices sliceRange
  have e : max 0 (min (if (j : Int) < 0 then (j : Int) + z.length else (j : Int)) (z.length : Int)) = (j : Int) := by
    rw [if_neg (Int.not_lt.mpr (Int.natCast_nonneg _)), Int.min_eq_left (show _ ≤ (z.length : Int) from Int.ofNat_le.mpr h), Int.max_eq_right (Int.natCast_nonneg _)]
  simp only [show (1 : Int) > 0 from by decide, if_true, e]
  have c : (if (0 : Int) < (j : Int) then ((j : Int) - 0 + 1 - 1) / 1 else 0).toNat = j - 0 := by
    rw [Int.ediv_one, Int.add_sub_cancel, Int.sub_zero, Nat.sub_zero]
    split
    · rfl
    · omega
  rw [c]
  refine List.map_congr_left fun k _ => ?_
  omega
theorem slice_from {z : Str} {a : Nat} (h : a ≤ z.cps.size) : (Txt.slice z (some (a : Int)) none).cps.toList = z.cps.toList.drop a := by
  have h' : z.length = z.cps.size := rfl
  refine (slice_list (a := a) (b := z.cps.size) ?_ (Nat.le_refl _) h).trans (by rw [List.take_of_length_le (by rw [List.length_drop, Array.length_toList]; omega)])
  unfold PySem.Builtin.Str.strSliceIndices sliceRange
  have e : max 0 (min (if (a : Int) < 0 then (a : Int) + z.length else (a : Int)) (z.length : Int)) = (a : Int) := by
    rw [if_neg (Int.not_lt.mpr (Int.natCast_nonneg _)), Int.min_eq_left (show _ ≤ (z.length : Int) from Int.ofNat_le.mpr h), Int.max_eq_right (Int.natCast_nonneg _)]
  simp only [show (1 : Int) > 0 from by decide, if_true, e]
  have c : (if (a : Int) < (z.length : Int) then ((z.length : Int) - (a : Int) + 1 - 1) / 1 else 0).toNat = z.cps.size - a := by
    rw [Int.ediv_one, Int.add_sub_cancel, h']
    split
    · rw [← Int.ofNat_sub h]; rfl
    · omega
  rw [c]
  refine List.map_congr_left fun k _ => ?_
  omega
theorem turn_list {n : Nat} {z : Str} (st : StOk n z) {i : Nat} (hi : i < n) : (turnT z i).cps.toList = z.cps.toList.take i ++ (if (z.cps.getD i 0 == 49) = true then 48 else 49) :: z.cps.toList.drop (i + 1) := by
  have hl := st.len
  have a := slice_to (z := z) (j := i) (by omega)
  have b := slice_from (z := z) (a := i + 1) (by omega)
  rw [show ((i + 1 : Nat) : Int) = (i : Int) + 1 from by omega] at b
  have f : (flipT z i).cps.toList = [if (z.cps.getD i 0 == 49) = true then 48 else 49] := by
    unfold flipT
    split
    · decide +kernel
    · decide +kernel
  unfold turnT
  show ((_ ++ _) ++ _ : Array Nat).toList = _
  rw [Array.toList_append, Array.toList_append, a, b, f]
  simp
end K2
set_option Elab.async false
set_option linter.all false
set_option maxRecDepth 100000
set_option maxHeartbeats 4000000
namespace K2
open PySem L2
local macro_rules | `(tactic| walk_at "vc") => `(tactic| first
  | ((refine' (?zz : (?zA → ?zG) → ?zA → ?zG) ?zr ?_); (case zr => with_reducible exact s_seqT); (case zz => exact fun _ q => q); intro D') | ((refine' (?zz : (?zA → ?zG) → ?zA → ?zG) ?zr ?_); (case zr => with_reducible exact s_nameT); (case zz => exact fun _ q => q); intro σ') | ((refine' (?zz : (?zA → ?zG) → ?zA → ?zG) ?zr ?_); (case zr => with_reducible first | exact s_asg | exact s_drop | exact s_ret | exact s_if | exact s_sub | exact s_next | exact i_c | exact i_op | exact i_test | exact i_tB | exact i_and | exact i_or | exact i_not | exact i_andV | exact i_orV | exact i_notV | exact i_ifE | exact i_nil | exact i_cons | exact i_cb | exact i_tup | exact i_lst | exact i_bm | exact i_sl | exact i_nopart | exact i_part | exact s_for | exact s_rng1 | exact s_list | exact s_str | exact i_dget | exact i_yes | exact i_un); (case zz => exact fun _ q => q))
  | ((with_reducible refine' i_var ?hv ?_); (case hv => exact rfl))   | (with_reducible first | refine i_rI0 ?_ | refine i_call ?_ | refine s_strI ?_ | refine iteF ?_ | refine iteT ?_ | refine i_rU ?_)
  | ((with_reducible show ∃ i, V.int _ = V.int i ∧ _); (refine ⟨_, rfl, ?_⟩)) | ((with_reducible show ∃ k, V.bl _ = V.bl k ∧ _); (refine ⟨_, rfl, ?_⟩)) | ((with_reducible show (∃ i, [V.bl _] = [V.int i] ∧ _) ∨ _); (refine Or.inr ⟨_, rfl, ?_⟩))
  | ((with_reducible refine' i_ixL ?ha ?hb ?_); (case ha => exact SqL.of (by assumption)); (case hb => exact rfl)) | ((with_reducible refine' i_ixT ?ha ?hb ?_); (case ha => assumption); (case hb => exact rfl))
  | ((with_reducible show ∃ p _, [V.ref _] = [V.ref p] ∧ (SqL _ _ _ _ ∨ SqT _ _ _ _) ∧ _); (refine' ⟨_, _, rfl, Or.inl (SqL.of ?ha), ?_⟩); (case ha => assumption)) | ((with_reducible refine' s_setL ?ha ?hb ?_); (case ha => assumption); (case hb => exact rfl))
  | ((with_reducible refine' i_eq ?ha ?_); (case ha => exact rfl)) | ((with_reducible refine' i_ne ?ha ?_); (case ha => exact rfl))
  | ((with_reducible show ∃ z, V.str _ = V.str z ∧ _); (refine ⟨_, rfl, ?_⟩))
  | ((with_reducible refine' i_rI ?hv ?_); (case hv => first | decide | (dsimp only; omega) | exact .inl ⟨by omega, by omega⟩ | exact .inr ⟨by omega, by omega⟩ | exact ⟨by decide, by decide⟩ | exact ⟨by decide, by decide, by decide⟩ | exact ⟨by omega, by omega⟩))
  | ((with_reducible show ∃ i, [V.int _] = [V.int i] ∧ _); (refine ⟨_, rfl, ?_⟩))
  | ((with_reducible show tyV _ "list" _ _ ∧ _); (refine' ⟨i_tyL ?ha, ?_⟩); (case ha => assumption)))

theorem wlen (ins : List Str) (gs : List (Str × Rl)) : (wiresN ins gs).length = ins.length + gs.length := by unfold wiresN; rw [List.length_append, List.length_map]
section
variable {P : Program} {w : World} {K : PySem.W.Frag} {mg : Str → Option Value} {base : Heap} {TT : Addr}
end
set_option Elab.async false
set_option linter.all false
set_option maxRecDepth 100000
set_option maxHeartbeats 4000000

theorem steps_sub {f : Str → Bool} {z : Str} : ∀ (gs : List (Str × Rl)) (n : Nat), List.Sublist (((gs.zipIdx n).filterMap (stepOf f z)).map (·.1)) (gs.map (·.1))
  | [], _ => by simp
  | g :: gs, n => by
    rw [List.zipIdx_cons, List.filterMap_cons, List.map_cons]
    have ih := steps_sub (f := f) (z := z) gs (n + 1)
    cases e : stepOf f z (g, n) with
    | none => exact ih.cons _
    | some p =>
      have : p.1 = g.1 := by
        unfold stepOf at e
        split at e
        · cases e
        · cases e; rfl
      rw [List.map_cons, this]
      exact ih.cons₂ _
theorem steps_nd {ins : List Str} {gs : List (Str × Rl)} (nd : (wiresN ins gs).Nodup) (z : Str) : ((stepsN ins gs z).map (·.1)).Nodup := by
  unfold wiresN at nd
  exact ((List.nodup_append.mp nd).2.1).sublist (steps_sub gs ins.length)
noncomputable def stV (ps : List (Str × Str)) : List (Str × V) := ps.map fun p => (p.1, V.str p.2)
theorem stv_val {ins : List Str} {gs : List (Str × Rl)} (nd : (wiresN ins gs).Nodup) {z n y : Str} (h : (n, y) ∈ stepsN ins gs z) : valV (putAll [] (keyed (stV (stepsN ins gs z)))) (Sum.inr n : Key) = some (.str y) := by
  refine valV_putAll_in ?_ ?_
  · have : (keyed (stV (stepsN ins gs z))).map (·.1) = ((stepsN ins gs z).map (·.1)).map Sum.inr := by unfold keyed stV; simp
    rw [this]
    exact nodup_inr (steps_nd nd z)
  · unfold keyed stV
    rw [List.map_map]
    exact List.mem_map.mpr ⟨(n, y), h, rfl⟩
theorem prat_of {H : Hp} : ∀ {vs : List V} {ps : List (Str × Str)}, Paired (StAt H) vs ps → Paired (PrAt H) vs (stV ps)
  | _, _, .nil => .nil
  | _, _, .cons h t => .cons h (prat_of t)
theorem step_at {ins : List Str} {gs : List (Str × Rl)} {z n : Str} {i : Nat} (nd : (wiresN ins gs).Nodup) (hw : (wiresN ins gs)[i]? = some n) (hn : n ∈ askedN ins gs z) : (n, turnT z i) ∈ stepsN ins gs z := by
  rw [← steps_names nd] at hn
  obtain ⟨⟨n', y⟩, hm, rfl⟩ := List.mem_map.mp hn
  have hm2 := hm
  unfold stepsN at hm2
  obtain ⟨⟨g, p⟩, hp, e⟩ := List.mem_filterMap.mp hm2
  obtain ⟨h1, h2, h3⟩ := List.mem_zipIdx hp
  unfold stepOf at e
  split at e
  · cases e
  · cases e
    have wl : (wiresN ins gs).length = ins.length + gs.length := by unfold wiresN; rw [List.length_append, List.length_map]
    have hw2 : (wiresN ins gs)[p]? = some g.1 := by
      unfold wiresN
      rw [List.getElem?_append_right (by omega), List.getElem?_map, List.getElem?_eq_getElem (by omega), ← h3]
      rfl
    have hi : i < (wiresN ins gs).length := (List.getElem?_eq_some_iff.mp hw).1
    have hp2 : p < (wiresN ins gs).length := (List.getElem?_eq_some_iff.mp hw2).1
    have : i = p := (List.getElem_inj nd).mp ((List.getElem?_eq_some_iff.mp hw).2.trans (List.getElem?_eq_some_iff.mp hw2).2.symm)
    rw [this]
    exact hm
noncomputable def fl (n : Str) (f : Str → Bool) (m : Str) : Bool := if m = n then !f m else f m
theorem turn_row {ws : List Str} {z n : Str} {i : Nat} (nd : ws.Nodup) (st : StOk ws.length z) (hw : ws[i]? = some n) : turnT z i = rowT (fl n (sgn ws z)) ws := by
  have hi : i < ws.length := (List.getElem?_eq_some_iff.mp hw).1
  have en : ws[i] = n := (List.getElem?_eq_some_iff.mp hw).2
  have e := turn_list st hi
  have zs := congrArg (fun s : Str => s.cps.toList) (row_self nd st)
  simp only [row_list] at zs
  have hidx : ws.idxOf n = i := by rw [← en]; exact List.Nodup.idxOf_getElem nd _ hi
  have es : (z.cps.getD i 0 == 49) = sgn ws z n := by unfold sgn; rw [hidx]
  have q : (turnT z i).cps.toList = (rowT (fl n (sgn ws z)) ws).cps.toList := by
    rw [e, row_list, es, ← zs]
    refine List.ext_getElem? fun j => ?_
    have hm : ((ws.map fun w => if sgn ws z w then 49 else 48).take i).length = i := by rw [List.length_take, List.length_map]; omega
    by_cases c1 : j < i
    · rw [List.getElem?_append_left (by omega), List.getElem?_take, if_pos c1, List.getElem?_map, List.getElem?_map]
      have hj : j < ws.length := by omega
      rw [List.getElem?_eq_getElem hj]
      have ne : ws[j] ≠ n := fun h => by
        have := (List.getElem_inj nd).mp (h.trans en.symm)
        omega
      simp [fl, ne]
    · rw [List.getElem?_append_right (by omega), hm, List.getElem?_map]
      by_cases c2 : j = i
      · subst c2
        rw [Nat.sub_self, hw]
        cases h : sgn ws z n <;> simp [fl, h]
      · rw [show j - i = (j - i - 1) + 1 by omega, List.getElem?_cons_succ, List.getElem?_drop, List.getElem?_map, show i + 1 + (j - i - 1) = j by omega]
        cases h : ws[j]? with
        | none => rfl
        | some m =>
          have hj : j < ws.length := (List.getElem?_eq_some_iff.mp h).1
          have ej : ws[j] = m := (List.getElem?_eq_some_iff.mp h).2
          have ne : m ≠ n := fun g => by
            have := (List.getElem_inj nd).mp ((ej.trans g).trans en.symm)
            omega
          simp [fl, ne]
  have q' : (turnT z i).cps = (rowT (fl n (sgn ws z)) ws).cps := Array.toList_inj.mp q
  cases h1 : turnT z i
  cases h2 : rowT (fl n (sgn ws z)) ws
  rw [h1, h2] at q'
  simpa using q'
noncomputable def spTurnG : Sp := fun vs H Q E => ∃ a li lg ins gvs gs z n, vs = [.ref a, .str z, .str n] ∧ NAt H a li lg ins gvs gs ∧ NetOk ins gs ∧ (wiresN ins gs).Nodup ∧ StOk (wiresN ins gs).length z ∧ n ∈ ins ∧ ∀ H', Same H H' → Q (.str (rowT (fl n (sgn (wiresN ins gs) z)) (wiresN ins gs))) H'
noncomputable def spSwitchG : Sp := fun vs H Q E => ∃ a li lg ins gvs gs z n, vs = [.ref a, .str z, .str n] ∧ NAt H a li lg ins gvs gs ∧ NetOk ins gs ∧ (wiresN ins gs).Nodup ∧ StOk (wiresN ins gs).length z ∧ n ∈ askedN ins gs z ∧ ∀ H', Same H H' → Q (.str (rowT (fl n (sgn (wiresN ins gs) z)) (wiresN ins gs))) H'
section
variable {P : Program} {w : World} {K : PySem.W.Frag} {mg : Str → Option Value} {base : Heap} {TT : Addr}
theorem sc_turn_input : FnScope ["net", "standing", "name"] ["net", "standing", "name"] (defScope (top 30)) := ⟨rfl, rfl, rfl, by decide +kernel, rfl, by decide +kernel, by decide +kernel⟩
theorem ok_turnG {f : Addr} {fd : FuncData} (Fu : Fun K "turn_input" "turn_input" (top 30) f fd) (T : Txt K mg TT) (f_check_standing : Fn P w K mg base "check_standing" ["net", "thing"] 3 (spIsSt .non)) (f_turned_at : Fn P w K mg base "turned_at" ["standing", "place"] 1 spTurned) :
    FnOk P w K mg base CX0 5 f fd ["net", "standing", "name"] spTurnG := by
  have S := sc_turn_input
  refine Fu.ok S (fun vs H Q E h => ?_) (fun cdv A outer s H vs Q E hr h => ?_)
  · obtain ⟨a, li, lg, ins, gvs, gs, z, n, rfl, _⟩ := h
    rfl
  · obtain ⟨a, li, lg, ins, gvs, gs, z, n, rfl, NA, ok, nd, st, hn, k⟩ := h
    refine ⟨_, (pss_cons (ps_expr (pe_fn f_check_standing (hr.mono (by first | decide | omega)) (by rfl) (pa_cons (pv 0) (pa_cons (pv 1) pa_nil))))
      (pss_cons (ps_if (PW.pt (pw_or (pt_not (pt_val (pe_callB call_isinst (by rfl) T.n_isinstance PyProof.Rows.boot_isinstance (pa_cons (pv 2) (pa_cons (pe_bltn (v := .ty "str") (by rfl) T.n_str PyProof.Rows.boot_str rfl) pa_nil))))) (pw_or1 (pt_cmpR op_notIn_seq (pv 2) (pe_ix ix_tup (pv 0) pe_int (fun _ _ => rfl)) rfl)))) pss_never pss_nil)
      (pss_one (ps_ret (pe_fn f_turned_at (hr.mono (by first | decide | omega)) (by rfl) (pa_cons (pv 1) (pa_cons (pe_bm PySem.F.plainAttrs_list PySem.F.slot_list_index PySem.F.type_list_index mt_index (pe_ix ix_tup (pv 0) pe_int (fun _ _ => rfl)) (pa_cons (pv 2) pa_nil)) pa_nil))))))), ?_⟩
    try dsimp only [cxOf, Cx.nox, Cx.wish]
    rw [show L2.start ["net", "standing", "name"] [V.ref a, V.str z, V.str n] = [some (.ref a), some (.str z), some (.str n)] from rfl]
    have big : 1000 < sizeLine := by decide
    repeat walk_at "vc"
    refine ⟨a, li, lg, ins, gvs, gs, z, rfl, NA, ok, st, fun H1 S1 => ?_⟩
    have NA1 := NA.same S1
    obtain ⟨ha, hi, hg, gts⟩ := id NA1
    repeat walk_at "vc"
    refine ⟨_, _, _, _, rfl, TyOf.str n, kit_same "str", ?_⟩
    refine ⟨_, rfl, iteF ?_⟩
    repeat walk_at "vc"
    refine ⟨li, _, rfl, .inl (SqL.of hi), rfl, flat_strs _, ?_⟩
    refine ⟨_, rfl, ?_⟩
    have i4 := ok.i4
    have g7 := ok.g7
    have wl := wlen ins gs
    have e : inV (.str n) (ins.map V.str) = true := inV_str.mpr hn
    rw [e]
    refine ifF (by simp) ?_
    have hl : ins.idxOf n < ins.length := List.idxOf_lt_length_iff.mpr hn
    have hidx : ins[ins.idxOf n]? = some n := by rw [List.getElem?_eq_getElem hl, List.getElem_idxOf hl]
    have hno : ∀ m, m < ins.idxOf n → ins[m]? ≠ some n := fun m hm h => by
      have h2 : m < ins.length := by omega
      have h3 : ins[m] = n := (List.getElem?_eq_some_iff.mp h).2
      have h4 := List.not_of_lt_findIdx (p := (· == n)) hm
      simp [h3] at h4
    generalize ins.idxOf n = i at *
    have hw : (wiresN ins gs)[i]? = some n := by unfold wiresN; rw [List.getElem?_append_left hl]; exact hidx
    repeat walk_at "vc"
    refine ⟨li, ins, n, i, rfl, rfl, hi, hidx, hno, by omega, ?_⟩
    repeat walk_at "vc"
    refine ⟨z, _, i, rfl, st, by omega, by omega, ?_⟩
    rw [turn_row nd st hw]
    exact k H1 S1
theorem sc_switch_gate : FnScope ["net", "standing", "name", "behind"] ["net", "standing", "name"] (defScope (top 29)) := ⟨rfl, rfl, rfl, by decide +kernel, rfl, by decide +kernel, by decide +kernel⟩
theorem ok_switchG {f : Addr} {fd : FuncData} (Fu : Fun K "switch_gate" "switch_gate" (top 29) f fd) (T : Txt K mg TT) (f_check_standing : Fn P w K mg base "check_standing" ["net", "thing"] 3 (spIsSt .non)) (f_steps_from : Fn P w K mg base "steps_from" ["net", "standing"] 12 spSteps) :
    FnOk P w K mg base CX0 14 f fd ["net", "standing", "name"] spSwitchG := by
  have S := sc_switch_gate
  refine Fu.ok S (fun vs H Q E h => ?_) (fun cdv A outer s H vs Q E hr h => ?_)
  · obtain ⟨a, li, lg, ins, gvs, gs, z, n, rfl, _⟩ := h
    rfl
  · obtain ⟨a, li, lg, ins, gvs, gs, z, n, rfl, NA, ok, nd, st, hn, k⟩ := h
    have hu := hu_of hr
    refine ⟨_, (pss_cons (ps_expr (pe_fn f_check_standing (hr.mono (by first | decide | omega)) (by rfl) (pa_cons (pv 0) (pa_cons (pv 1) pa_nil))))
      (pss_cons (ps_set (i := 3) S.nd rfl (by first | exact Or.inl rfl | exact Or.inr rfl) (pe_dpairs rfl (by rfl) T.n_dict (pa_cons (pe_fn f_steps_from (hr.mono (by first | decide | omega)) (by rfl) (pa_cons (pv 0) (pa_cons (pv 1) pa_nil))) pa_nil)))
      (pss_cons (ps_if (PW.pt (pw_or (pt_not (pt_val (pe_callB call_isinst (by rfl) T.n_isinstance PyProof.Rows.boot_isinstance (pa_cons (pv 2) (pa_cons (pe_bltn (v := .ty "str") (by rfl) T.n_str PyProof.Rows.boot_str rfl) pa_nil))))) (pw_or1 (pt_cmp (pc_dnotin hu (pv 2) (pv 3)))))) pss_never pss_nil)
      (pss_one (ps_ret (pe_dget hu (pv 3) (pv 2) (fun _ _ => rfl))))))), ?_⟩
    try dsimp only [cxOf, Cx.nox, Cx.wish]
    rw [show L2.start ["net", "standing", "name", "behind"] [V.ref a, V.str z, V.str n] = [some (.ref a), some (.str z), some (.str n), none] from rfl]
    have big : 1000 < sizeLine := by decide
    have g7 := ok.g7
    repeat walk_at "vc"
    refine ⟨a, li, lg, ins, gvs, gs, z, rfl, NA, ok, st, fun H1 S1 => ?_⟩
    have NA1 := NA.same S1
    repeat walk_at "vc"
    unfold tDpairs
    repeat walk_at "vc"
    refine ⟨a, li, lg, ins, gvs, gs, z, rfl, NA1, ok, nd, st, fun l vs' H4 S4 nl hl pr => ?_⟩
    have lv := paired_len pr
    have ls : (stepsN ins gs z).length ≤ gs.length := by
      have := List.length_filterMap_le (stepOf (sgn (wiresN ins gs) z) z) (gs.zipIdx ins.length)
      rw [List.length_zipIdx] at this
      exact this
    refine i_nil ⟨l, vs', stV (stepsN ins gs z), rfl, SqL.of hl, by omega, prat_of pr, fun d hd => ?_⟩
    generalize hE : upd H4 d _ = H5
    have S5 : Same H4 H5 := by rw [← hE]; exact fresh_same hd
    have q5 : H5 d = some (.dK (putAll [] (keyed (stV (stepsN ins gs z))))) := by rw [← hE]; exact upd_same
    clear hE
    have S05 := S1.trans (S4.trans S5)
    repeat walk_at "vc"
    refine ⟨_, _, _, _, rfl, TyOf.str n, kit_same "str", ?_⟩
    refine ⟨_, rfl, iteF ?_⟩
    repeat walk_at "vc"
    show tVar 2 _ _ _
    refine i_var rfl (i_var rfl ?_)
    have hg : n ∈ wiresN ins gs := by
      unfold askedN at hn
      obtain ⟨g, hg, e⟩ := List.mem_map.mp hn
      unfold wiresN
      exact List.mem_append.mpr (.inr (List.mem_map.mpr ⟨g, (List.mem_filter.mp hg).1, e⟩))
    obtain ⟨i, hlt, hw'⟩ := List.mem_iff_getElem.mp hg
    have hw : (wiresN ins gs)[i]? = some n := by rw [List.getElem?_eq_getElem hlt, hw']
    have hm := step_at nd hw hn
    rw [turn_row nd st hw] at hm
    have vn := stv_val nd hm
    refine ⟨d, some (.str _), rfl, by rw [← vn]; exact DGet.k (k := Sum.inr n) q5, _, rfl, ifF rfl ?_⟩
    repeat walk_at "vc"
    refine ⟨d, _, rfl, by rw [← vn]; exact DGet.k (k := Sum.inr n) q5, ?_⟩
    exact k H5 S05
end
set_option Elab.async false
set_option linter.all false
set_option maxRecDepth 100000
set_option maxHeartbeats 4000000

noncomputable def spLaw (K : PySem.W.Frag) : Sp := fun vs H Q _ => ∃ (a : Addr) (ns : List Int), vs = [.ref a] ∧ SqL K H a (ns.map V.int) ∧ ns.length ≤ 63 ∧ ∀ H', Q (.bl true) H'
theorem eqd_str {K : PySem.W.Frag} {H : Hp} {n : Nat} {z : Str} : EqD K H n (.str z) (.str z) true := by
  have h := EqD.flat (K := K) (H := H) (n := n) (x := .str z) (y := .str z) rfl rfl
  have e : eqV (.str z) (.str z) = true := by simp [eqV]
  rw [e] at h
  exact h
theorem strs_eqd {K : PySem.W.Frag} {H : Hp} {n : Nat} (ns : List Str) : ∀ (j : Nat) x y, (ns.map V.str)[j]? = some x → (ns.map V.str)[j]? = some y → EqD K H n x y true := fun j x y e1 e2 => by
  rw [e1] at e2
  cases e2
  rw [List.getElem?_map] at e1
  cases h : ns[j]? with
  | none => rw [h] at e1; cases e1
  | some z => rw [h] at e1; cases e1; exact eqd_str
set_option Elab.async false
set_option linter.all false
set_option maxRecDepth 100000
set_option maxHeartbeats 4000000

theorem rl_val {ns : List Str} {f g : Str → Bool} (h : ∀ n ∈ ns, f n = g n) : ∀ r : Rl, r.ok ns → r.val f = r.val g
  | .w n => fun q => h n q
  | .no r => fun q => by show (!r.val f) = !r.val g; rw [rl_val h r q]
  | .an a b => fun q => by show (a.val f && b.val f) = (a.val g && b.val g); rw [rl_val h a q.1, rl_val h b q.2]
  | .orr a b => fun q => by show (a.val f || b.val f) = (a.val g || b.val g); rw [rl_val h a q.1, rl_val h b q.2]
noncomputable def askF (F : Str → Bool) (gs : List (Str × Rl)) : List Str := (gs.filter fun g => !(g.2.val F == F g.1)).map (·.1)
theorem asked_row {ins : List Str} {gs : List (Str × Rl)} (ok : NetOk ins gs) (F : Str → Bool) : askedN ins gs (rowT F (wiresN ins gs)) = askF F gs := by
  unfold askedN askF
  congr 1
  refine List.filter_congr fun g hg => ?_
  have hn : g.1 ∈ wiresN ins gs := by unfold wiresN; exact List.mem_append.mpr (.inr (List.mem_map_of_mem hg))
  rw [rl_val (ns := wiresN ins gs) (fun n hn => sgn_row F hn) g.2 (ok.rules g hg).1, sgn_row F hn]
theorem asked_self (ins : List Str) (gs : List (Str × Rl)) (z : Str) : askedN ins gs z = askF (sgn (wiresN ins gs) z) gs := rfl
theorem ask_app (F : Str → Bool) (g1 g2 : List (Str × Rl)) : askF F (g1 ++ g2) = askF F g1 ++ askF F g2 := by unfold askF; rw [List.filter_append, List.map_append]
theorem ask_in {F : Str → Bool} {gs : List (Str × Rl)} {n : Str} (h : n ∈ askF F gs) : n ∈ gs.map (·.1) := by
  unfold askF at h
  obtain ⟨g, hg, e⟩ := List.mem_map.mp h
  exact List.mem_map.mpr ⟨g, (List.mem_filter.mp hg).1, e⟩
theorem ask_len (F : Str → Bool) (gs : List (Str × Rl)) : (askF F gs).length ≤ gs.length := by unfold askF; rw [List.length_map]; exact List.length_filter_le _ _
theorem fl_row (n : Str) (F : Str → Bool) (ws : List Str) : rowT (fl n (sgn ws (rowT F ws))) ws = rowT (fl n F) ws := row_eq fun m hm => by unfold fl; rw [sgn_row F hm]
end K2
set_option Elab.async false
set_option linter.all false
set_option maxRecDepth 100000
set_option maxHeartbeats 4000000
namespace K2
open PySem L2 PySem.Spec PyProof.Rows
theorem lt_anti : ∀ a b : List Nat, ltCps a b = false → ltCps b a = false → a = b
  | [], [], _, _ => rfl
  | [], _ :: _, h, _ => nomatch h
  | _ :: _, [], _, h => nomatch h
  | x :: a, y :: b, h, g => by
    simp only [ltCps, Bool.or_eq_false_iff, decide_eq_false_iff_not] at h g
    have e : x = y := by omega
    subst e
    simp only [BEq.rfl, Bool.true_and] at h g
    rw [lt_anti a b h.2 g.2]
theorem lt_tran : ∀ a b c : List Nat, ltCps b a = false → ltCps c b = false → ltCps c a = false
  | [], _, [], _, _ => rfl
  | [], _, _ :: _, _, _ => rfl
  | _ :: _, [], _, h, _ => nomatch h
  | _ :: _, _ :: _, [], _, h => nomatch h
  | x :: a, y :: b, z :: c, h, g => by
    simp only [ltCps, Bool.or_eq_false_iff, decide_eq_false_iff_not] at h g ⊢
    refine ⟨by omega, ?_⟩
    by_cases e : z = x
    · have e2 : z = y := by omega
      subst e
      subst e2
      simp only [BEq.rfl, Bool.true_and] at h g ⊢
      exact lt_tran a b c h.2 g.2
    · simp [e]
noncomputable def leS (a b : Str) : Prop := ltCps b.cps.toList a.cps.toList = false
theorem leS_anti {a b : Str} (h : leS a b) (g : leS b a) : a = b := by
  have := lt_anti _ _ g h
  cases a
  cases b
  simpa using this
theorem rising_all : ∀ (r : List Str) (p : Str), risingS p r = true → (∀ x ∈ r, leS p x) ∧ r.Pairwise leS
  | [], _, _ => ⟨(fun _ h => nomatch h), List.Pairwise.nil⟩
  | x :: r, p, h => by
    simp only [risingS, Bool.and_eq_true, Bool.not_eq_true'] at h
    obtain ⟨a, b⟩ := rising_all r x h.2
    have px : leS p x := h.1
    refine ⟨fun y hy => ?_, List.Pairwise.cons a b⟩
    rcases List.mem_cons.mp hy with e | hy
    · rw [e]; exact px
    · exact lt_tran _ _ _ px (a y hy)
theorem sorted_all : ∀ {r : List Str}, sortedS r = true → r.Pairwise leS
  | [], _ => List.Pairwise.nil
  | x :: r, h => let ⟨a, b⟩ := rising_all r x h; List.Pairwise.cons a b
theorem sorted_eq {a b : List Str} (ha : sortedS a = true) (hb : sortedS b = true) (p : List.Perm a b) : a = b :=
  List.Perm.eq_of_pairwise (le := leS) (fun _ _ _ _ h g => leS_anti h g) (sorted_all ha) (sorted_all hb) p
end K2
set_option Elab.async false
set_option linter.all false
set_option maxRecDepth 100000
set_option maxHeartbeats 4000000
namespace K2
open PySem L2
local macro_rules | `(tactic| walk_at "vc") => `(tactic| first
  | ((refine' (?zz : (?zA → ?zG) → ?zA → ?zG) ?zr ?_); (case zr => with_reducible exact s_seqT); (case zz => exact fun _ q => q); intro D') | ((refine' (?zz : (?zA → ?zG) → ?zA → ?zG) ?zr ?_); (case zr => with_reducible exact s_nameT); (case zz => exact fun _ q => q); intro σ') | ((refine' (?zz : (?zA → ?zG) → ?zA → ?zG) ?zr ?_); (case zr => with_reducible first | exact s_asg | exact s_drop | exact s_ret | exact s_if | exact s_sub | exact s_next | exact i_c | exact i_op | exact i_test | exact i_tB | exact i_and | exact i_or | exact i_not | exact i_andV | exact i_orV | exact i_notV | exact i_ifE | exact i_nil | exact i_cons | exact i_cb | exact i_tup | exact i_lst | exact i_bm | exact i_sl | exact i_nopart | exact i_part | exact s_for | exact s_rng1 | exact s_list | exact s_str | exact i_dget | exact i_yes | exact i_un); (case zz => exact fun _ q => q))
  | ((with_reducible refine' i_var ?hv ?_); (case hv => exact rfl))   | (with_reducible first | refine i_rI0 ?_ | refine i_call ?_ | refine s_strI ?_ | refine iteF ?_ | refine iteT ?_ | refine i_rU ?_)
  | ((with_reducible show ∃ i, V.int _ = V.int i ∧ _); (refine ⟨_, rfl, ?_⟩)) | ((with_reducible show ∃ k, V.bl _ = V.bl k ∧ _); (refine ⟨_, rfl, ?_⟩)) | ((with_reducible show (∃ i, [V.bl _] = [V.int i] ∧ _) ∨ _); (refine Or.inr ⟨_, rfl, ?_⟩))
  | ((with_reducible refine' i_ixL ?ha ?hb ?_); (case ha => exact SqL.of (by assumption)); (case hb => exact rfl)) | ((with_reducible refine' i_ixT ?ha ?hb ?_); (case ha => assumption); (case hb => exact rfl))
  | ((with_reducible show ∃ p _, [V.ref _] = [V.ref p] ∧ (SqL _ _ _ _ ∨ SqT _ _ _ _) ∧ _); (refine' ⟨_, _, rfl, Or.inl (SqL.of ?ha), ?_⟩); (case ha => assumption)) | ((with_reducible refine' s_setL ?ha ?hb ?_); (case ha => assumption); (case hb => exact rfl))
  | ((with_reducible refine' i_eq ?ha ?_); (case ha => exact rfl)) | ((with_reducible refine' i_ne ?ha ?_); (case ha => exact rfl))
  | ((with_reducible show ∃ z, V.str _ = V.str z ∧ _); (refine ⟨_, rfl, ?_⟩)))

noncomputable def Lt : Str := "abcdefghijklmnopqrstuvwxyz"
noncomputable def Xn (t : Nat) : Str := Txt.mul ⟨#[Lt.cps.getD t 0]⟩ 8
theorem Xn_inj : ∀ i, i < 26 → ∀ j, j < 26 → Xn i = Xn j → i = j := by decide +kernel
theorem Xn_low : ∀ t, t < 26 → ∀ c ∈ (Xn t).cps.toList, 97 ≤ c ∧ c ≤ 122 := by decide +kernel
theorem Xn_len : ∀ t, t < 26 → (Xn t).length = 8 := by decide +kernel
theorem mulok (c : Nat) : MulOk ⟨#[c]⟩ 8 := by
  refine ⟨by decide, fun _ _ => ?_, fun _ _ => ?_⟩
  · show ¬ ((1 : Int) > (2 ^ 63 - 1) / 8)
    decide
  · rfl
theorem pigeon : ∀ (xs ys : List Str), xs.Nodup → (∀ x ∈ xs, x ∈ ys) → xs.length ≤ ys.length
  | [], ys, _, _ => Nat.zero_le _
  | x :: xs, ys, nd, h => by
    rw [List.nodup_cons] at nd
    have hx := h x (by simp)
    have := pigeon xs (ys.erase x) nd.2 fun y hy => (List.mem_erase_of_ne (fun z : y = x => nd.1 (by rw [← z]; exact hy))).mpr (h y (List.mem_cons_of_mem _ hy))
    rw [List.length_erase_of_mem hx] at this
    have : 0 < ys.length := List.length_pos_of_mem hx
    rw [List.length_cons]
    omega
theorem Xs_nodup : ∀ t, t ≤ 26 → ((List.range t).map Xn).Nodup
  | 0, _ => by simp
  | t + 1, h => by
    rw [List.range_succ, List.map_append, List.nodup_append]
    refine ⟨Xs_nodup t (by omega), by simp, fun a ha b hb e => ?_⟩
    obtain ⟨i, hi, rfl⟩ := List.mem_map.mp ha
    rw [List.mem_range] at hi
    have : b = Xn t := by simpa using hb
    subst this
    have := Xn_inj i (by omega) t (by omega) e
    omega
theorem few_X {ns : List Str} {t : Nat} (ht : t ≤ 26) (h : ∀ j, j < t → Xn j ∈ ns) : t ≤ ns.length := by
  have := pigeon ((List.range t).map Xn) ns (Xs_nodup t ht) fun x hx => by
    obtain ⟨j, hj, rfl⟩ := List.mem_map.mp hx
    exact h j (List.mem_range.mp hj)
  simpa using this
noncomputable def spNames : Sp := fun vs H Q _ => ∃ (D : Dk) (m : Nat), vs = [.ref D.d, .int m] ∧ D.At H ∧ 1 ≤ m ∧ m ≤ 11 ∧ ∀ l (ns : List Str) H', ns.length = m → ns.Nodup → (∀ n ∈ ns, Low n) → H' l = some (.lst (ns.map V.str)) → Kp D H H' → Q (.ref l) H'
noncomputable def NJ (D : Dk) (H : Hp) (l : Addr) (m i : Nat) (stem : Str) (ns : List Str) : St → Hp → Prop := fun σ H' => ∃ (way : Int) (nm : Str) (x8 x9 : Option V), σ = [some (.ref D.d), some (.int m), some (.str Lt), some (.str stem), some (.ref l), some (.int (0 + i)), some (.int way), some (.str nm), x8, x9] ∧ Low nm ∧ H' l = some (.lst (ns.map V.str)) ∧ Kp D H H'
theorem lt_low : ∀ c ∈ Lt.cps.toList, 97 ≤ c ∧ c ≤ 122 := by decide +kernel
theorem low_mk {z : Str} (h1 : 1 ≤ z.cps.toList.length) (h8 : z.cps.toList.length ≤ 8) (h : ∀ c ∈ z.cps.toList, 97 ≤ c ∧ c ≤ 122) : Low z := by
  have e : z.cps.toList.length = z.length := Array.length_toList ..
  exact ⟨by omega, by omega, h⟩
theorem sl_to {z : Str} {r : Int} (h0 : 0 ≤ r) (h1 : r ≤ z.cps.toList.length) : (Txt.slice z none (some r)).cps.toList = z.cps.toList.take r.toNat := by
  have e : Txt.slice z none (some r) = _ := PySem.StrLaws.sliceText_to ⟨h0, h1⟩
  rw [e, List.drop_zero, show r - 0 = r by omega]
theorem sl_from {z : Str} {r : Int} (h0 : 0 ≤ r) (h1 : r ≤ z.cps.toList.length) : (Txt.slice z (some r) none).cps.toList = z.cps.toList.drop r.toNat := by
  have e : Txt.slice z (some r) none = _ := PySem.StrLaws.sliceText_from ⟨h0, h1⟩
  rw [e]
  show (z.cps.toList.drop r.toNat).take _ = _
  exact List.take_of_length_le (by rw [List.length_drop]; omega)
theorem app_l (a b : Str) : (a ++ b).cps.toList = a.cps.toList ++ b.cps.toList := by
  show (a.cps ++ b.cps).toList = _
  simp
theorem at_last {ns : List Str} (h : ns ≠ []) : ∃ n ∈ ns, atI (ns.map V.str) (-1) = some (.str n) := by
  have hl : 0 < ns.length := List.length_pos_iff.mpr h
  refine ⟨ns[ns.length - 1], List.getElem_mem _, ?_⟩
  have e : ixN (ns.map V.str).length (-1) = some (ns.length - 1) := by
    unfold ixN
    rw [List.length_map, if_neg (by decide), if_pos (by omega)]
    congr 1
    omega
  unfold atI
  rw [e]
  show (ns.map V.str)[ns.length - 1]? = _
  rw [List.getElem?_map, List.getElem?_eq_getElem (by omega)]
  rfl
section
variable {P : Program} {w : World} {K : PySem.W.Frag} {mg : Str → Option Value} {base : Heap} {TT : Addr}
theorem sc_law_names : FnScope ["deck", "many", "letters", "stem", "found", "k", "way", "name", "at", "turn"] ["deck", "many"] (defScope (top 35)) := ⟨rfl, rfl, rfl, by decide +kernel, rfl, by decide +kernel, by decide +kernel⟩
theorem ok_names {f : Addr} {fd : FuncData} (Fu : Fun K "_law_names" "_law_names" (top 35) f fd) (T : Txt K mg TT) (f_law_draw : Fn P w K mg base "_law_draw" ["deck", "many"] 1 spDraw) : FnOk P w K mg base CX0 2 f fd ["deck", "many"] spNames := by
  have S := sc_law_names
  refine Fu.ok S (fun vs H Q E h => ?_) (fun cdv A outer s H vs Q E hr h => ?_)
  · obtain ⟨D, m, rfl, _⟩ := h
    rfl
  · obtain ⟨D, m, rfl, DA, m1, m11, k⟩ := h
    refine ⟨_, (pss_cons (ps_set (i := 2) S.nd rfl (by first | exact Or.inl rfl | exact Or.inr rfl) pe_str)
      (pss_cons (ps_set (i := 3) S.nd rfl (by first | exact Or.inl rfl | exact Or.inr rfl) (pe_bm PySem.F.plainAttrs_str PySem.F.slot_str_join PySem.F.type_str_join mt_join pe_str (pa_cons (pe_lc (tgs := ["k"]) (cap := [("letters", 2), ("deck", 0)]) rfl ⟨rfl, rfl, rfl, rfl, rfl, rfl⟩ (pi_range1 (by rfl) T.n_range (pa_cons pe_int pa_nil)) (fun _ _ _ _ => (pg_name (i := 0) (show List.Nodup [("k" : Str), ("letters" : Str), ("deck" : Str)] by decide +kernel) rfl (by first | exact Or.inl rfl | exact Or.inr rfl))) (fun _ _ _ _ => pifs_nil) (fun _ _ _ _ => (pe_ix ix_str (pv 1) (pe_fn f_law_draw (hr.mono (by first | decide | omega)) (by rfl) (pa_cons (pv 2) (pa_cons pe_int pa_nil))) (fun _ _ => rfl)))) pa_nil)))
      (pss_cons (ps_set (i := 4) S.nd rfl (by first | exact Or.inl rfl | exact Or.inr rfl) (pe_lst pa_nil))
      (pss_cons (ps_for PassesOwn.never rfl (pi_range1 (by rfl) T.n_range (pa_cons (pv 1) pa_nil)) (pg_name (i := 5) S.nd rfl (by first | exact Or.inl rfl | exact Or.inr rfl))
      (pss_cons (ps_set (i := 6) S.nd rfl (by first | exact Or.inl rfl | exact Or.inr rfl) (pe_fn f_law_draw (hr.mono (by first | decide | omega)) (by rfl) (pa_cons (pv 0) (pa_cons pe_int pa_nil))))
      (pss_cons (ps_set (i := 7) S.nd rfl (by first | exact Or.inl rfl | exact Or.inr rfl) (pe_bm PySem.F.plainAttrs_str PySem.F.slot_str_join PySem.F.type_str_join mt_join pe_str (pa_cons (pe_lc (tgs := ["j"]) (cap := [("letters", 2), ("deck", 0)]) rfl ⟨rfl, rfl, rfl, rfl, rfl, rfl⟩ (pi_range1 (by rfl) T.n_range (pa_cons (pe_op op_add pe_int (pe_fn f_law_draw (hr.mono (by first | decide | omega)) (by rfl) (pa_cons (pv 0) (pa_cons pe_int pa_nil)))) pa_nil)) (fun _ _ _ _ => (pg_name (i := 0) (show List.Nodup [("j" : Str), ("letters" : Str), ("deck" : Str)] by decide +kernel) rfl (by first | exact Or.inl rfl | exact Or.inr rfl))) (fun _ _ _ _ => pifs_nil) (fun _ _ _ _ => (pe_ix ix_str (pv 1) (pe_fn f_law_draw (hr.mono (by first | decide | omega)) (by rfl) (pa_cons (pv 2) (pa_cons pe_int pa_nil))) (fun _ _ => rfl)))) pa_nil)))
      (pss_cons (ps_if (pt_cmpR op_eq (pv 6) pe_int (nomark _)) (pss_one (ps_set (i := 7) S.nd rfl (by first | exact Or.inl rfl | exact Or.inr rfl) (pe_op op_add_str (pe_slice sl_str (pv 3) po_none (po_some (pe_fn f_law_draw (hr.mono (by first | decide | omega)) (by rfl) (pa_cons (pv 0) (pa_cons pe_int pa_nil))))) (pe_ix ix_str (pv 2) (pe_fn f_law_draw (hr.mono (by first | decide | omega)) (by rfl) (pa_cons (pv 0) (pa_cons pe_int pa_nil))) (fun _ _ => rfl))))) pss_nil)
      (pss_cons (ps_if (PW.pt (pw_and (pt_cmpR op_eq (pv 6) pe_int (nomark _)) (pw_and1 (pt_cmpR (op_neL hr.units) (pv 4) (pe_lst pa_nil) (nomark _))))) (pss_cons (ps_set (i := 8) S.nd rfl (by first | exact Or.inl rfl | exact Or.inr rfl) (pe_fn f_law_draw (hr.mono (by first | decide | omega)) (by rfl) (pa_cons (pv 0) (pa_cons (pe_callB call_len_str (by rfl) T.n_len PySem.boot_len (pa_cons (pe_ix ix_list (pv 4) (pe_un un_neg pe_int) (fun _ _ => rfl)) pa_nil)) pa_nil))))
      (pss_one (ps_set (i := 7) S.nd rfl (by first | exact Or.inl rfl | exact Or.inr rfl) (pe_op op_add_str (pe_op op_add_str (pe_slice sl_str (pe_ix ix_list (pv 4) (pe_un un_neg pe_int) (fun _ _ => rfl)) po_none (po_some (pv 8))) (pe_ix ix_str (pv 2) (pe_fn f_law_draw (hr.mono (by first | decide | omega)) (by rfl) (pa_cons (pv 0) (pa_cons pe_int pa_nil))) (fun _ _ => rfl))) (pe_slice sl_str (pe_ix ix_list (pv 4) (pe_un un_neg pe_int) (fun _ _ => rfl)) (po_some (pe_op op_add (pv 8) pe_int)) po_none))))) pss_nil)
      (pss_cons (ps_if (pt_cmpR op_eq (pv 6) pe_int (nomark _)) (pss_one (ps_set (i := 7) S.nd rfl (by first | exact Or.inl rfl | exact Or.inr rfl) (pe_ix ix_list (pe_lst (pa_cons pe_str (pa_cons pe_str (pa_cons pe_str (pa_cons pe_str (pa_cons pe_str (pa_cons pe_str (pa_cons pe_str pa_nil)))))))) (pe_fn f_law_draw (hr.mono (by first | decide | omega)) (by rfl) (pa_cons (pv 0) (pa_cons pe_int pa_nil))) (fun _ _ => rfl)))) pss_nil)
      (pss_cons (ps_set (i := 9) S.nd rfl (by first | exact Or.inl rfl | exact Or.inr rfl) pe_int)
      (pss_cons (ps_while PassesOwn.never (pt_cmpR op_in_seq (pv 7) (pv 4) rfl)
      (pss_cons (ps_set (i := 7) S.nd rfl (by first | exact Or.inl rfl | exact Or.inr rfl) (pe_op op_mul_str (pe_ix ix_str (pv 2) (pv 9) (fun _ _ => rfl)) pe_int))
      (pss_one (ps_set (i := 9) S.nd rfl (by first | exact Or.inl rfl | exact Or.inr rfl) (pe_op op_add (pv 9) pe_int)))))
      (pss_one (ps_expr (pe_bm PySem.F.plainAttrs_list PySem.F.slot_list_append PySem.F.type_list_append mt_append (pv 4) (pa_cons (pv 7) pa_nil))))))))))))
      (pss_one (ps_ret (pv 4))))))), ?_⟩
    try dsimp only [cxOf, Cx.nox, Cx.wish]
    rw [show L2.start ["deck", "many", "letters", "stem", "found", "k", "way", "name", "at", "turn"] [V.ref D.d, V.int m] = [some (.ref D.d), some (.int m), none, none, none, none, none, none, none, none] from rfl]
    have z26 : ((Lt.cps.size : Nat) : Int) = 26 := by decide +kernel
    have big : 100000 < sizeLine := by decide
    repeat walk_at "vc"
    refine ⟨rfl, ?_⟩
    repeat walk_at "vc"
    refine i_comp ?_
    repeat walk_at "vc"
    refine ⟨_, rfl, by decide, by decide, fun L hL => ?_⟩
    have step : ∀ (H' : Hp) (Q' : VK) (x : Option V), D.At H' → (∀ c H'', c ∈ Lt.cps.toList → Kp D H' H'' → Q' (.str ⟨#[c]⟩) H'') → tOp rIxS (tVar 1) (tCall spDraw [] E0 (tCons (tVar 2) (tCons (tC (V.int 26)) tNil))) [x, some (.str Lt), some (.ref D.d)] H' Q' := fun H' Q' x DA' kq => by
      repeat walk_at "vc"
      refine ⟨D, 26, rfl, DA', by decide, by decide, fun r H2 r0 r1 k2 => ?_⟩
      obtain ⟨c, e, hc⟩ := atI_str (t := Lt) r0 (by rw [z26]; exact r1)
      exact i_ixS (by decide +kernel) e (kq c H2 hc k2)
    refine comp_letters (t := Lt) (n := 7) DA hL (by decide) (fun x => ⟨rfl, rfl, trivial⟩) (fun i H' Q' DA' kq => step H' Q' _ DA' kq) (fun H1 zs hz hc kp1 hl1 => ?_)
    obtain ⟨st1, st2⟩ := join_size hc
    obtain ⟨_, _, e3⟩ := letters_flat zs hc
    have e0 : ("" : Str) = Str.empty := by decide +kernel
    have e00 : ("" : Str).length = 0 := by decide +kernel
    refine i_nil ⟨"", L, zs, rfl, rfl, SqL.of hl1, by rw [e3, e00]; omega, ?_⟩
    rw [e0]
    have stl : (Txt.join Str.empty zs).length = 7 := by show (Txt.join Str.empty zs).cps.size = 7; rw [st1, hz]
    have stw : ∀ c ∈ (Txt.join Str.empty zs).cps.toList, 97 ≤ c ∧ c ≤ 122 := fun c h => lt_low c (st2 c h)
    have stn : (Txt.join Str.empty zs).cps.toList.length = 7 := by rw [Array.length_toList, st1, hz]
    generalize Txt.join Str.empty zs = stem at *
    repeat walk_at "vc"
    refine ⟨by decide, fun l hl => ?_⟩
    have Hl : H l = none := kp1.free hl
    have hll : upd H1 l (.lst []) l = some (.lst (([] : List Str).map V.str)) := upd_same
    have kp2 : Kp D H (upd H1 l (.lst [])) := kp1.new hl
    generalize upd H1 l (.lst []) = H2 at *
    repeat walk_at "vc"
    refine ⟨_, rfl, by omega, by omega, ?_⟩
    rw [Int.toNat_natCast]
    refine for_range (fun i σ H' => ∃ x5 x6 x7 x8 x9 ns, σ = [some (.ref D.d), some (.int m), some (.str Lt), some (.str stem), some (.ref l), x5, x6, x7, x8, x9] ∧ i ≤ m ∧ ns.length = i ∧ ns.Nodup ∧ (∀ n ∈ ns, Low n) ∧ H' l = some (.lst (ns.map V.str)) ∧ Kp D H H')
      ⟨_, _, _, _, _, [], rfl, Nat.zero_le _, rfl, List.nodup_nil, (fun n h => nomatch h), hll, kp2⟩ (fun i σ H' hi pv => ?_) (fun σ H' pv => ?_)
    · obtain ⟨x5, x6, x7, x8, x9, ns, rfl, _, hn, nd, good, hl', kp⟩ := pv
      have hJ : True := trivial
      have pick : ∀ (H' : Hp) (Q' : VK) (σ : St), σ[0]? = some (some (.ref D.d)) → σ[2]? = some (some (.str Lt)) → D.At H' → (∀ c H'', c ∈ Lt.cps.toList → Kp D H' H'' → Q' (.str ⟨#[c]⟩) H'') → tOp rIxS (tVar 2) (tCall spDraw [] E0 (tCons (tVar 0) (tCons (tC (V.int 26)) tNil))) σ H' Q' := fun H' Q' σ s0 s2 DA' kq => by
        refine i_op (i_var s2 (i_call (i_cons (i_var s0 (i_cons (i_c (i_nil ?_)))))))
        refine ⟨D, 26, rfl, DA', by decide, by decide, fun r H2 r0 r1 k2 => ?_⟩
        obtain ⟨c, e, hc⟩ := atI_str (t := Lt) r0 (by rw [z26]; exact r1)
        exact i_ixS (by decide +kernel) e (kq c H2 hc k2)
      refine s_name ?_
      repeat walk_at "vc"
      refine ⟨D, 4, rfl, kp.dk, by decide, by decide, fun way H3 w0 w4 k3 => ?_⟩
      have hl3 := k3.strs kp.dk hl'
      have kp3 := kp.trans k3
      repeat walk_at "vc"
      refine ⟨rfl, ?_⟩
      repeat walk_at "vc"
      refine i_comp ?_
      repeat walk_at "vc"
      refine ⟨D, 8, rfl, kp3.dk, by decide, by decide, fun r H4 r0 r8 k4 => ?_⟩
      have hl4 := k4.strs kp3.dk hl3
      have kp4 := kp3.trans k4
      repeat walk_at "vc"
      refine ⟨_, rfl, by omega, by omega, fun L2 hL2 => ?_⟩
      refine comp_letters (t := Lt) kp4.dk hL2 (by omega) (fun x => ⟨rfl, rfl, trivial⟩) (fun i H' Q' DA' kq => step H' Q' _ DA' kq) (fun H5 zs hz hc k5 hl5 => ?_)
      obtain ⟨nm1, nm2⟩ := join_size hc
      obtain ⟨_, _, e3⟩ := letters_flat zs hc
      refine i_nil ⟨Str.empty, L2, zs, rfl, rfl, SqL.of hl5, by rw [e3, show Str.empty.length = 0 from rfl]; omega, ?_⟩
      have hnm : Low (Txt.join Str.empty zs) := by
        have : (Txt.join Str.empty zs).length = zs.length := nm1
        exact ⟨by rw [this, hz]; omega, by rw [this, hz]; omega, fun c h => lt_low c (nm2 c h)⟩
      have hl5' := k5.strs kp4.dk hl4
      have kp5 := kp4.trans k5
      generalize Txt.join Str.empty zs = nm at *
      refine s_name ?_
      clear hl5 hz hc nm1 nm2 e3
      with_reducible refine seq_join (NJ D H l m i stem ns) (fun R hR => ?_) (fun σ6 H6 j6 => ?_)
      · have hl6 := hl5'
        have kp6 := kp5
        repeat walk_at "vc"
        refine ite2 (fun _ => ?_) (fun _ => hR _ _ ⟨way, nm, x8, x9, rfl, hnm, hl6, kp6⟩)
        repeat walk_at "vc"
        refine ⟨D, 8, rfl, kp6.dk, by decide, by decide, fun r H7 r0 r8 k7 => ?_⟩
        have hl7 := k7.strs kp6.dk hl6
        have kp7 := kp6.trans k7
        repeat walk_at "vc"
        refine i_slS (by omega) ?_
        refine pick _ _ _ rfl rfl kp7.dk fun c H8 hcL k8 => ?_
        have sl := Txt.slice_le stem none (some r)
        have l1 : (⟨#[c]⟩ : Str).length = 1 := rfl
        refine ⟨_, _, rfl, rfl, by omega, ?_⟩
        refine s_name (hR _ _ ⟨way, _, x8, x9, rfl, ?_, k8.strs kp7.dk hl7, kp7.trans k8⟩)
        have sq := sl_to (z := stem) r0 (by omega)
        refine low_mk ?_ ?_ fun u hu => ?_
        · rw [app_l, List.length_append]; show 1 ≤ _ + 1; omega
        · rw [app_l, List.length_append, sq, List.length_take]; show _ + 1 ≤ 8; omega
        · rw [app_l, sq] at hu
          rcases List.mem_append.mp hu with hu | hu
          · exact stw u (List.mem_of_mem_take hu)
          · rw [show u = c from List.mem_singleton.mp hu]; exact lt_low c hcL
      clear hnm hl5' kp5
      with_reducible refine seq_join (NJ D H l m i stem ns) (fun R hR => ?_) (fun σ7 H7 j7 => ?_)
      · obtain ⟨way, nm, x8, x9, rfl, hnm, hl6, kp6⟩ := j6
        have out : ∀ H', Kp D H6 H' → R [some (.ref D.d), some (.int m), some (.str Lt), some (.str stem), some (.ref l), some (.int (0 + i)), some (.int way), some (.str nm), x8, x9] H' := fun H' kq => hR _ _ ⟨way, nm, x8, x9, rfl, hnm, kq.strs kp6.dk hl6, kp6.trans kq⟩
        have kr : Kp D H6 H6 := Kp.of kp6.dk (Same.refl _)
        repeat walk_at "vc"
        refine ite2 (fun _ => ?_) (fun _ => ?_)
        · repeat walk_at "vc"
          refine ⟨by decide, fun p hp => ?_⟩
          have S7 := fresh_same (o := .lst []) hp
          have kq := Kp.of kp6.dk S7
          have hl7 := S7 _ _ hl6
          refine ⟨l, p, _, [], fun _ => true, rfl, rfl, SqL.of hl7, SqL.of upd_same, (fun j x y _ h => by simp at h), ⟨_, rfl, ?_⟩⟩
          refine ite2 (fun hne => ?_) (fun _ => out _ kq)
          have nne : ns ≠ [] := fun z => by subst z; simp at hne
          obtain ⟨la, hla, ela⟩ := at_last nne
          have gla := good la hla
          have gp := gla.l1
          have gl := gla.l8
          have glt : la.cps.toList.length = la.length := Array.length_toList ..
          generalize upd H6 p (.lst []) = H8 at *
          repeat walk_at "vc"
          refine i_ixL (SqL.of hl7) ela ?_
          repeat walk_at "vc"
          refine ⟨_, rfl, by omega, ?_⟩
          repeat walk_at "vc"
          refine ⟨D, _, rfl, kq.dk, by omega, by omega, fun at1 H9 a0 a1 k9 => ?_⟩
          have hl9 := k9.strs kq.dk hl7
          repeat walk_at "vc"
          refine i_ixL (SqL.of hl9) ela ?_
          repeat walk_at "vc"
          refine i_slS (by omega) ?_
          refine pick _ _ _ rfl rfl k9.dk fun c H10 hcL k10 => ?_
          have sl1 := Txt.slice_le la none (some at1)
          have sl2 := Txt.slice_le la (some (at1 + 1)) none
          have l1 : (⟨#[c]⟩ : Str).length = 1 := rfl
          have lap : ∀ a b : Str, (a ++ b).length = a.length + b.length := fun a b => by show (a.cps ++ b.cps).size = _; rw [Array.size_append]; rfl
          refine ⟨_, _, rfl, rfl, by omega, ?_⟩
          have hl10 := k10.strs k9.dk hl9
          repeat walk_at "vc"
          refine i_ixL (SqL.of hl10) ela ?_
          repeat walk_at "vc"
          refine i_slS (by omega) ?_
          refine ⟨_, _, rfl, rfl, by rw [lap]; omega, ?_⟩
          refine s_name (hR _ _ ⟨way, _, _, x9, rfl, ?_, hl10, kp6.trans (kq.trans (k9.trans k10))⟩)
          have sq1 := sl_to (z := la) a0 (by omega)
          have sq2 := sl_from (z := la) (r := at1 + 1) (by omega) (by omega)
          refine low_mk ?_ ?_ fun u hu => ?_
          · rw [app_l, app_l, List.length_append, List.length_append]; show 1 ≤ _ + 1 + _; omega
          · rw [app_l, app_l, List.length_append, List.length_append, sq1, sq2, List.length_take, List.length_drop]; show _ + 1 + _ ≤ 8; omega
          · rw [app_l, app_l, sq1, sq2] at hu
            rcases List.mem_append.mp hu with hu | hu
            · rcases List.mem_append.mp hu with hu | hu
              · exact gla.low u (List.mem_of_mem_take hu)
              · rw [show u = c from List.mem_singleton.mp hu]; exact lt_low c hcL
            · exact gla.low u (List.mem_of_mem_drop hu)
        · first | exact out _ kr | exact iteF (out _ kr)
      with_reducible refine seq_join (NJ D H l m i stem ns) (fun R hR => ?_) (fun σ8 H8 j8 => ?_)
      · obtain ⟨way, nm, x8, x9, rfl, hnm, hl6, kp6⟩ := j7
        repeat walk_at "vc"
        refine ite2 (fun _ => ?_) (fun _ => hR _ _ ⟨way, nm, x8, x9, rfl, hnm, hl6, kp6⟩)
        repeat walk_at "vc"
        refine ⟨by decide +kernel, fun p hp => ?_⟩
        have S7 := fresh_same (o := .lst ((["a", "wire", "not", "and", "or", "zzzzzzzz", "in"] : List Str).map V.str)) hp
        have kq := Kp.of kp6.dk S7
        have hl7 := S7 _ _ hl6
        have hp7 : upd H7 p (.lst ((["a", "wire", "not", "and", "or", "zzzzzzzz", "in"] : List Str).map V.str)) p = some (.lst ((["a", "wire", "not", "and", "or", "zzzzzzzz", "in"] : List Str).map V.str)) := upd_same
        show tCall spDraw [] E0 (tCons (tVar 0) (tCons (tC (V.int 7)) tNil)) _ (upd H7 p (.lst ((["a", "wire", "not", "and", "or", "zzzzzzzz", "in"] : List Str).map V.str))) _
        generalize upd H7 p (.lst ((["a", "wire", "not", "and", "or", "zzzzzzzz", "in"] : List Str).map V.str)) = H8 at *
        repeat walk_at "vc"
        refine ⟨D, 7, rfl, kq.dk, by decide, by decide, fun r H9 r0 r7 k9 => ?_⟩
        obtain ⟨wd, hw, ew⟩ := at_pick (ws := ["a", "wire", "not", "and", "or", "zzzzzzzz", "in"]) r0 r7
        refine i_ixL (SqL.of (k9.strs kq.dk hp7)) ew ?_
        refine s_name (hR _ _ ⟨way, wd, x8, x9, rfl, ?_, k9.strs kq.dk hl7, kp6.trans (kq.trans k9)⟩)
        have hh : ∀ wd ∈ (["a", "wire", "not", "and", "or", "zzzzzzzz", "in"] : List Str), 1 ≤ wd.length ∧ wd.length ≤ 8 ∧ ∀ c ∈ wd.cps.toList, 97 ≤ c ∧ c ≤ 122 := by decide +kernel
        obtain ⟨q1, q2, q3⟩ := hh wd hw
        exact ⟨q1, q2, q3⟩
      obtain ⟨way, nm, x8, x9, e, hnm, hl6, kp6⟩ := j8
      subst e
      with_reducible refine s_seq (s_asg (i_c (s_name ?_)))
      with_reducible refine seq_join (fun σ H' => ∃ (t : Int) (nm : Str), σ = [some (.ref D.d), some (.int m), some (.str Lt), some (.str stem), some (.ref l), some (.int (0 + i)), some (.int way), some (.str nm), x8, some (.int t)] ∧ Low nm ∧ nm ∉ ns ∧ H' = H8) (fun R hR => ?_) (fun σ9 H9 j9 => ?_)
      · refine ⟨fun n σ H' => ∃ (t : Nat) (nm : Str), n = 26 - t ∧ t ≤ 11 ∧ σ = [some (.ref D.d), some (.int m), some (.str Lt), some (.str stem), some (.ref l), some (.int (0 + i)), some (.int way), some (.str nm), x8, some (.int t)] ∧ Low nm ∧ H' = H8 ∧ (∀ j, j + 1 < t → Xn j ∈ ns) ∧ (1 ≤ t → nm = Xn (t - 1)), ⟨26, 0, nm, rfl, by omega, rfl, hnm, rfl, (fun j h => by omega), (fun h => by omega)⟩, ?_⟩
        rintro n σ H' ⟨t, nm, rfl, t11, rfl, hnm, rfl, q1, q2⟩
        repeat walk_at "vc"
        refine i_in (SqL.of hl6) rfl (flat_strs ns) ?_
        refine ⟨_, rfl, ?_⟩
        refine ite2 (fun hin => ?_) (fun hin => ?_)
        · have hmem := inV_str.mp hin
          have hall : ∀ j, j < t → Xn j ∈ ns := fun j hj => by
            by_cases z : j + 1 < t
            · exact q1 j z
            · have : j = t - 1 := by omega
              rw [this, ← q2 (by omega)]
              exact hmem
          have ht := few_X (by omega) hall
          refine ⟨_, fun σ' H' w => ⟨26 - (t + 1), by omega, w⟩, ?_⟩
          repeat walk_at "vc"
          have et : atI Lt.cps.toList ((t : Nat) : Int) = some (Lt.cps.getD t 0) := by
            refine atI_nat ?_
            have : t < Lt.cps.size := by omega
            simp [Array.getD, this]
          refine i_ixS (by decide +kernel) et ?_
          repeat walk_at "vc"
          refine ⟨_, _, rfl, rfl, mulok _, ?_⟩
          repeat walk_at "vc"
          refine ⟨t + 1, Xn t, rfl, by omega, rfl, ?_, rfl, (fun j hj => hall j (by omega)), (fun _ => rfl)⟩
          have := Xn_len t (by omega)
          exact ⟨by omega, by omega, Xn_low t (by omega)⟩
        · exact hR _ _ ⟨t, nm, rfl, hnm, fun z => hin (inV_str.mpr z), rfl⟩
      obtain ⟨t, nm, e, hnm, hnot, e9⟩ := j9
      subst e e9
      repeat walk_at "vc"
      refine ⟨i_tyL hl6, ?_⟩
      repeat walk_at "vc"
      refine i_app hl6 (by rw [List.length_map]; omega) ?_
      refine ⟨_, _, _, _, _, ns ++ [nm], rfl, by omega, by simp [hn], ?_, fun n hn' => ?_, by rw [upd_same]; simp, Kp.fresh DA Hl kp6⟩
      · rw [List.nodup_append]
        exact ⟨nd, by simp, fun a ha b hb e => hnot (by
          have hb' : b = nm := by simpa using hb
          rw [← hb', ← e]; exact ha)⟩
      · rcases List.mem_append.mp hn' with h | h
        · exact good n h
        · have : n = nm := by simpa using h
          rw [this]; exact hnm
    · obtain ⟨x5, x6, x7, x8, x9, ns, rfl, _, hn, nd, good, hl', kp⟩ := pv
      refine s_ret (te := tVar 4) (D := { nx := fun x H' => Q V.non H', rt := Q }) (i_var rfl ?_)
      exact k l ns H' hn nd good hl' kp
end
set_option Elab.async false
set_option linter.all false
set_option maxRecDepth 100000
set_option maxHeartbeats 4000000
noncomputable def NetQ (ins : List Str) (gs : List (Str × Rl)) : Prop := NetOk ins gs ∧ IsNet ins gs
noncomputable def spNet : Sp := fun vs H Q _ => ∃ (D : Dk), vs = [.ref D.d] ∧ D.At H ∧ ∀ a li lg ins gvs gs H', NAt H' a li lg ins gvs gs → NetQ ins gs → Kp D H H' → Q (.ref a) H'
theorem few_low : ∀ z ∈ (["a", "b", "c", "d", "e"] : List Str), Low z := by
  have h : ∀ z ∈ (["a", "b", "c", "d", "e"] : List Str), 1 ≤ z.length ∧ z.length ≤ 8 ∧ ∀ c ∈ z.cps.toList, 97 ≤ c ∧ c ≤ 122 := by decide +kernel
  exact fun z hz => ⟨(h z hz).1, (h z hz).2.1, (h z hz).2.2⟩
theorem netok_0 : NetQ ["a", "b"] [("c", heldR "a" (.w "b") "c")] := by
  refine ⟨⟨by decide, by decide, fun g hg => ?_, fun n hn => few_low n ?_⟩, by decide, by decide, by decide, by decide +kernel⟩
  · simp only [List.mem_cons, List.not_mem_nil, or_false] at hg
    rcases hg with rfl <;> simp [heldR, Rl.ok, Rl.dep, wiresN]
  · simp only [wiresN, List.map_cons, List.map_nil, List.mem_append, List.mem_cons, List.not_mem_nil, or_false] at hn
    simp only [List.mem_cons, List.not_mem_nil, or_false]
    grind
theorem netok_1 : NetQ [] [("a", .no (.w "c")), ("b", .no (.w "a")), ("c", .no (.w "b"))] := by
  refine ⟨⟨by decide, by decide, fun g hg => ?_, fun n hn => few_low n ?_⟩, by decide, by decide, by decide, by decide +kernel⟩
  · simp only [List.mem_cons, List.not_mem_nil, or_false] at hg
    rcases hg with rfl | rfl | rfl <;> simp [heldR, Rl.ok, Rl.dep, wiresN]
  · simp only [wiresN, List.map_cons, List.map_nil, List.mem_append, List.mem_cons, List.not_mem_nil, or_false] at hn
    simp only [List.mem_cons, List.not_mem_nil, or_false]
    grind
theorem netok_2 : NetQ ["a", "b"] [("c", .no (.orr (.w "a") (.w "d"))), ("d", .no (.orr (.w "b") (.w "c")))] := by
  refine ⟨⟨by decide, by decide, fun g hg => ?_, fun n hn => few_low n ?_⟩, by decide, by decide, by decide, by decide +kernel⟩
  · simp only [List.mem_cons, List.not_mem_nil, or_false] at hg
    rcases hg with rfl | rfl <;> simp [heldR, Rl.ok, Rl.dep, wiresN]
  · simp only [wiresN, List.map_cons, List.map_nil, List.mem_append, List.mem_cons, List.not_mem_nil, or_false] at hn
    simp only [List.mem_cons, List.not_mem_nil, or_false]
    grind
theorem netok_3 : NetQ ["a", "e"] [("b", heldR "a" (.no (.w "c")) "b"), ("c", heldR "b" (.no (.w "d")) "c"), ("d", heldR "c" (.no (.w "e")) "d")] := by
  refine ⟨⟨by decide, by decide, fun g hg => ?_, fun n hn => few_low n ?_⟩, by decide, by decide, by decide, by decide +kernel⟩
  · simp only [List.mem_cons, List.not_mem_nil, or_false] at hg
    rcases hg with rfl | rfl | rfl <;> simp [heldR, Rl.ok, Rl.dep, wiresN]
  · simp only [wiresN, List.map_cons, List.map_nil, List.mem_append, List.mem_cons, List.not_mem_nil, or_false] at hn
    simp only [List.mem_cons, List.not_mem_nil, or_false]
    grind
set_option Elab.async false
set_option linter.all false
set_option maxRecDepth 100000
set_option maxHeartbeats 4000000
local macro_rules | `(tactic| walk_at "kn") => `(tactic| first
  | (with_reducible refine' ps_if ?_ ?_ ?_) | (with_reducible exact pss_nil) | (with_reducible refine' pss_one ?_) | (with_reducible refine' ps_ret ?_) | (with_reducible refine' pe_tup ?_) | (with_reducible refine' pe_lst ?_) | (with_reducible exact pa_nil)
  | (with_reducible refine' pa_cons ?_ ?_ se_con) | (with_reducible refine' pa_cons ?_ ?_ se_name) | (with_reducible refine' pa_cons ?_ ?_ se_tup) | (with_reducible refine' pa_cons ?_ ?_ se_lst) | (with_reducible refine' pa_cons ?_ ?_ se_call) | (with_reducible exact pe_str)
  | (with_reducible refine' ps_expr ?_) | (with_reducible refine' pt_cmpR op_eq ?_ ?_ (nomark _)) | (with_reducible exact pe_int)
  | (with_reducible refine' pe_fn ?_ ?_ ?_ ?_ ?_ se_name ?_)
  | (with_reducible refine' pe_bm PySem.F.plainAttrs_list PySem.F.slot_list_append PySem.F.type_list_append mt_append ?_ ?_))

section
variable {P : Program} {w : World} {K : PySem.W.Frag} {mg : Str → Option Value} {base : Heap} {TT : Addr}
theorem sc_law_known : FnScope ["deck", "kind", "a", "b", "c", "d", "e", "gates"] ["deck"] (defScope (top 37)) := ⟨rfl, rfl, rfl, by decide +kernel, rfl, by decide +kernel, by decide +kernel⟩
theorem ok_known {f : Addr} {fd : FuncData} (Fu : Fun K "_law_known" "_law_known" (top 37) f fd) (T : Txt K mg TT) (f_law_draw : Fn P w K mg base "_law_draw" ["deck", "many"] 1 spDraw) (f_law_held : Fn P w K mg base "_law_held" ["one", "other", "own"] 1 spHeld) : FnOk P w K mg base CX0 2 f fd ["deck"] spNet := by
  have S := sc_law_known
  refine Fu.ok S (fun vs H Q E h => ?_) (fun cdv A outer s H vs Q E hr h => ?_)
  · obtain ⟨D, rfl, _⟩ := h
    rfl
  · obtain ⟨D, rfl, DA, k⟩ := h
    refine' ⟨?_, (pss_cons ?s0 (pss_cons ?s1 (pss_cons ?s2 (pss_cons ?s3 (pss_cons ?s4 (pss_cons ?s5 (pss_cons ?s6 (pss_one ?s7)))))))), ?_⟩
    case s0 => exact (ps_set (i := 1) S.nd rfl (by first | exact Or.inl rfl | exact Or.inr rfl) (pe_fn f_law_draw (hr.mono (by first | decide | omega)) (by rfl) (pa_cons (pv 0) (pa_cons pe_int pa_nil se_con) se_name)))
    case s1 => exact (ps_asg (pe_lc (tgs := ["name"]) (cap := []) rfl ⟨rfl, rfl, rfl, rfl, rfl, rfl⟩ (pi_list (pe_lst (pa_cons pe_str (pa_cons pe_str (pa_cons pe_str (pa_cons pe_str (pa_cons pe_str pa_nil se_con) se_con) se_con) se_con) se_con))) (fun _ _ _ _ => (pg_name (i := 0) (show List.Nodup [("name" : Str)] by decide +kernel) rfl (by first | exact Or.inl rfl | exact Or.inr rfl))) (fun _ _ _ _ => pifs_nil) (fun _ _ _ _ => (pe_tup (pa_cons pe_str (pa_cons (pv 0) pa_nil se_name) se_con)))) (pg_tupL rfl (pgs_cons (pg_name (i := 2) S.nd rfl (by first | exact Or.inl rfl | exact Or.inr rfl)) (pgs_cons (pg_name (i := 3) S.nd rfl (by first | exact Or.inl rfl | exact Or.inr rfl)) (pgs_cons (pg_name (i := 4) S.nd rfl (by first | exact Or.inl rfl | exact Or.inr rfl)) (pgs_cons (pg_name (i := 5) S.nd rfl (by first | exact Or.inl rfl | exact Or.inr rfl)) (pgs_cons (pg_name (i := 6) S.nd rfl (by first | exact Or.inl rfl | exact Or.inr rfl)) pgs_nil)))))))
    case s2 =>
      repeat' (walk_at "kn")
      all_goals (try exact f_law_held)
      all_goals (try exact hr.mono (by decide))
      all_goals (try (first | exact pv 1 | exact pv 2 | exact pv 3 | exact pv 4 | exact pv 5 | exact pv 6 | exact pv 7 | rfl | decide))
    case s3 =>
      repeat' (walk_at "kn")
      all_goals (try exact f_law_held)
      all_goals (try exact hr.mono (by decide))
      all_goals (try (first | exact pv 1 | exact pv 2 | exact pv 3 | exact pv 4 | exact pv 5 | exact pv 6 | exact pv 7 | rfl | decide))
    case s4 =>
      repeat' (walk_at "kn")
      all_goals (try exact f_law_held)
      all_goals (try exact hr.mono (by decide))
      all_goals (try (first | exact pv 1 | exact pv 2 | exact pv 3 | exact pv 4 | exact pv 5 | exact pv 6 | exact pv 7 | rfl | decide))
    case s5 =>
      refine' ps_set (i := 7) S.nd rfl (by first | exact Or.inl rfl | exact Or.inr rfl) ?_
      repeat' (walk_at "kn")
      all_goals (try exact f_law_held)
      all_goals (try exact hr.mono (by decide))
      all_goals (try (first | exact pv 1 | exact pv 2 | exact pv 3 | exact pv 4 | exact pv 5 | exact pv 6 | exact pv 7 | rfl | decide))
    case s6 =>
      refine' ps_expr ?v6
      case v6 =>
        refine' pe_bm PySem.F.plainAttrs_list PySem.F.slot_list_append PySem.F.type_list_append mt_append (pv 7) ?a6
        case a6 =>
          repeat' (walk_at "kn")
          all_goals (try exact f_law_held)
          all_goals (try exact hr.mono (by decide))
          all_goals (try (first | exact pv 1 | exact pv 2 | exact pv 3 | exact pv 4 | exact pv 5 | exact pv 6 | exact pv 7 | rfl | decide))
    case s7 =>
      repeat' (walk_at "kn")
      all_goals (try exact f_law_held)
      all_goals (try exact hr.mono (by decide))
      all_goals (try (first | exact pv 1 | exact pv 2 | exact pv 3 | exact pv 4 | exact pv 5 | exact pv 6 | exact pv 7 | rfl | decide))
    try dsimp only [cxOf, Cx.nox, Cx.wish]
    rw [show L2.start ["deck", "kind", "a", "b", "c", "d", "e", "gates"] [V.ref D.d] = [some (.ref D.d), none, none, none, none, none, none, none] from rfl]
    have big : 1000 < sizeLine := by decide
    repeat walk_at "vc"
    refine ⟨D, 4, rfl, DA, by decide, by decide, fun kind H1 k0 k4 kp1 => ?_⟩
    repeat walk_at "vc"
    refine i_comp ?_
    repeat walk_at "vc"
    refine ⟨by simp [sizeLine], fun p hp => ?_⟩
    generalize hE : upd _ p _ = H2
    have S2 := same_gen hE hp
    have q2 := at_gen hE
    clear hE
    refine ⟨p, rfl, ⟨_, SqL.of q2⟩, fun L hL => ?_⟩
    have wires : ∃ W : Nat → Nat → Hp → List V → Prop, True := ⟨fun _ _ _ _ => True, trivial⟩
    refine comp_list (xs := (["a", "b", "c", "d", "e"] : List Str).map V.str) (fun n H' ys => Same H2 H' ∧ H' L = some (.lst ys) ∧ n ≤ 5 ∧ Paired (fun v m => RAt H' v (.w m)) ys ((["a", "b", "c", "d", "e"] : List Str).take n)) ⟨fresh_same hL, upd_same, by decide, .nil⟩ (fun n H' ys pv => ⟨pv.2.1, SqL.of (pv.1 _ _ q2)⟩) (fun n x H' ys e pv => ?_) (fun H' ys pv => ?_)
    · obtain ⟨SS, hl', n5, pr⟩ := pv
      rw [List.getElem?_map] at e
      cases hn : (["a", "b", "c", "d", "e"] : List Str)[n]? with
      | none => rw [hn] at e; cases e
      | some nm =>
        rw [hn] at e
        cases e
        have hn5 : n < 5 := (List.getElem?_eq_some_iff.mp hn).1
        refine s_name ⟨trivial, i_yes (iteT ?_)⟩
        repeat walk_at "vc"
        refine ⟨by simp [sizeLine], fun t ht => ?_⟩
        have ntl : t ≠ L := ne_of_none' hl' ht
        have S3 := fresh_same (o := .tup [.str "wire", .str nm]) ht
        have ylen := paired_len pr
        rw [List.length_take] at ylen
        refine NextC.mk (S3 _ _ hl') (by simpa using hn5) (by omega) ⟨same_upd (SS.trans S3) hL, upd_same, by omega, ?_⟩
        rw [List.take_succ, hn]
        have kt : KeepT H' (upd (upd H' t (.tup [.str "wire", .str nm])) L (.lst (ys ++ [.ref t]))) := fun b xs eb => by
          have nb : b ≠ L := fun z => by rw [z, hl'] at eb; cases eb
          rw [upd_ne nb]; exact S3 _ _ eb
        exact paired_snoc (paired_mono (fun v m r => r.mono kt) pr) (.w (by rw [upd_ne ntl]; exact upd_same))
    obtain ⟨SS, hl', _, pr⟩ := pv
    cases pr with | @cons va _ _ _ ra pr => ?_
    cases pr with | @cons vb _ _ _ rb pr => ?_
    cases pr with | @cons vc _ _ _ rc pr => ?_
    cases pr with | @cons vd _ _ _ rd pr => ?_
    cases pr with | @cons ve _ _ _ re pr => ?_
    cases pr
    refine ⟨L, _, rfl, SqL.of hl', rfl, ?_⟩
    refine ⟨_, _, rfl, s_name ⟨_, _, rfl, s_name ⟨_, _, rfl, s_name ⟨_, _, rfl, s_name ⟨_, _, rfl, s_name ⟨rfl, ?_⟩⟩⟩⟩⟩⟩
    have kpH : Kp D H H' := kp1.trans (Kp.of kp1.dk (S2.trans SS))
    clear q2 hl' wires
    repeat walk_at "vc"
    refine ite2 (fun _ => ?_) (fun _ => ?_)
    · have S0 : Same H' H' := Same.refl _
      repeat walk_at "vc"
      refine ⟨by simp [sizeLine], fun li hli => ?_⟩
      generalize hE : upd _ li _ = G1
      have S1 := same_gen hE hli
      have q_li := at_gen hE
      clear hE
      repeat walk_at "vc"
      refine ⟨_, _, _, _, _, _, rfl, (ra.mono (Same.tups S1)), (rb.mono (Same.tups S1)), (rc.mono (Same.tups S1)), fun v1 G2 S2 r_v1 => ?_⟩
      repeat walk_at "vc"
      refine ⟨by simp [sizeLine], fun t1 ht1 => ?_⟩
      generalize hE : upd _ t1 _ = G3
      have S3 := same_gen hE ht1
      have q_t1 := at_gen hE
      clear hE
      repeat walk_at "vc"
      refine ⟨by simp [sizeLine], fun lg hlg => ?_⟩
      generalize hE : upd _ lg _ = G4
      have S4 := same_gen hE hlg
      have q_lg := at_gen hE
      clear hE
      repeat walk_at "vc"
      refine ⟨by simp [sizeLine], fun pa hpa => ?_⟩
      generalize hE : upd _ pa _ = G5
      have S5 := same_gen hE hpa
      have q_pa := at_gen hE
      clear hE
      refine k pa li lg ["a", "b"] _ [("c", heldR "a" (.w "b") "c")] _ ⟨q_pa, (S2.trans (S3.trans (S4.trans S5))) _ _ q_li, S5 _ _ q_lg, .cons ⟨t1, v1, rfl, (S4.trans S5) _ _ q_t1, r_v1.mono (Same.tups (S3.trans (S4.trans S5)))⟩ .nil⟩ ?_ (kpH.trans (Kp.of kpH.dk (S1.trans (S2.trans (S3.trans (S4.trans S5))))))
      exact netok_0
    repeat walk_at "vc"
    refine ite2 (fun _ => ?_) (fun _ => ?_)
    · have S0 : Same H' H' := Same.refl _
      repeat walk_at "vc"
      refine ⟨by simp [sizeLine], fun li hli => ?_⟩
      generalize hE : upd _ li _ = G1
      have S1 := same_gen hE hli
      have q_li := at_gen hE
      clear hE
      repeat walk_at "vc"
      refine ⟨by simp [sizeLine], fun n0 hn0 => ?_⟩
      generalize hE : upd _ n0 _ = G2
      have S2 := same_gen hE hn0
      have q_n0 := at_gen hE
      clear hE
      repeat walk_at "vc"
      refine ⟨by simp [sizeLine], fun t0 ht0 => ?_⟩
      generalize hE : upd _ t0 _ = G3
      have S3 := same_gen hE ht0
      have q_t0 := at_gen hE
      clear hE
      repeat walk_at "vc"
      refine ⟨by simp [sizeLine], fun n1 hn1 => ?_⟩
      generalize hE : upd _ n1 _ = G4
      have S4 := same_gen hE hn1
      have q_n1 := at_gen hE
      clear hE
      repeat walk_at "vc"
      refine ⟨by simp [sizeLine], fun t1 ht1 => ?_⟩
      generalize hE : upd _ t1 _ = G5
      have S5 := same_gen hE ht1
      have q_t1 := at_gen hE
      clear hE
      repeat walk_at "vc"
      refine ⟨by simp [sizeLine], fun n2 hn2 => ?_⟩
      generalize hE : upd _ n2 _ = G6
      have S6 := same_gen hE hn2
      have q_n2 := at_gen hE
      clear hE
      repeat walk_at "vc"
      refine ⟨by simp [sizeLine], fun t2 ht2 => ?_⟩
      generalize hE : upd _ t2 _ = G7
      have S7 := same_gen hE ht2
      have q_t2 := at_gen hE
      clear hE
      repeat walk_at "vc"
      refine ⟨by simp [sizeLine], fun lg hlg => ?_⟩
      generalize hE : upd _ lg _ = G8
      have S8 := same_gen hE hlg
      have q_lg := at_gen hE
      clear hE
      repeat walk_at "vc"
      refine ⟨by simp [sizeLine], fun pa hpa => ?_⟩
      generalize hE : upd _ pa _ = G9
      have S9 := same_gen hE hpa
      have q_pa := at_gen hE
      clear hE
      refine k pa li lg [] _ [("a", .no (.w "c")), ("b", .no (.w "a")), ("c", .no (.w "b"))] _ ⟨q_pa, (S2.trans (S3.trans (S4.trans (S5.trans (S6.trans (S7.trans (S8.trans S9))))))) _ _ q_li, S9 _ _ q_lg, .cons ⟨t0, .ref n0, rfl, (S4.trans (S5.trans (S6.trans (S7.trans (S8.trans S9))))) _ _ q_t0, .no ((S3.trans (S4.trans (S5.trans (S6.trans (S7.trans (S8.trans S9)))))) _ _ q_n0) (rc.mono (Same.tups (S1.trans (S2.trans (S3.trans (S4.trans (S5.trans (S6.trans (S7.trans (S8.trans S9))))))))))⟩ (.cons ⟨t1, .ref n1, rfl, (S6.trans (S7.trans (S8.trans S9))) _ _ q_t1, .no ((S5.trans (S6.trans (S7.trans (S8.trans S9)))) _ _ q_n1) (ra.mono (Same.tups (S1.trans (S2.trans (S3.trans (S4.trans (S5.trans (S6.trans (S7.trans (S8.trans S9))))))))))⟩ (.cons ⟨t2, .ref n2, rfl, (S8.trans S9) _ _ q_t2, .no ((S7.trans (S8.trans S9)) _ _ q_n2) (rb.mono (Same.tups (S1.trans (S2.trans (S3.trans (S4.trans (S5.trans (S6.trans (S7.trans (S8.trans S9))))))))))⟩ (.nil)))⟩ ?_ (kpH.trans (Kp.of kpH.dk (S1.trans (S2.trans (S3.trans (S4.trans (S5.trans (S6.trans (S7.trans (S8.trans S9))))))))))
      exact netok_1
    repeat walk_at "vc"
    refine ite2 (fun _ => ?_) (fun _ => ?_)
    · have S0 : Same H' H' := Same.refl _
      repeat walk_at "vc"
      refine ⟨by simp [sizeLine], fun li hli => ?_⟩
      generalize hE : upd _ li _ = G1
      have S1 := same_gen hE hli
      have q_li := at_gen hE
      clear hE
      repeat walk_at "vc"
      refine ⟨by simp [sizeLine], fun o0 ho0 => ?_⟩
      generalize hE : upd _ o0 _ = G2
      have S2 := same_gen hE ho0
      have q_o0 := at_gen hE
      clear hE
      repeat walk_at "vc"
      refine ⟨by simp [sizeLine], fun n0 hn0 => ?_⟩
      generalize hE : upd _ n0 _ = G3
      have S3 := same_gen hE hn0
      have q_n0 := at_gen hE
      clear hE
      repeat walk_at "vc"
      refine ⟨by simp [sizeLine], fun t0 ht0 => ?_⟩
      generalize hE : upd _ t0 _ = G4
      have S4 := same_gen hE ht0
      have q_t0 := at_gen hE
      clear hE
      repeat walk_at "vc"
      refine ⟨by simp [sizeLine], fun o1 ho1 => ?_⟩
      generalize hE : upd _ o1 _ = G5
      have S5 := same_gen hE ho1
      have q_o1 := at_gen hE
      clear hE
      repeat walk_at "vc"
      refine ⟨by simp [sizeLine], fun n1 hn1 => ?_⟩
      generalize hE : upd _ n1 _ = G6
      have S6 := same_gen hE hn1
      have q_n1 := at_gen hE
      clear hE
      repeat walk_at "vc"
      refine ⟨by simp [sizeLine], fun t1 ht1 => ?_⟩
      generalize hE : upd _ t1 _ = G7
      have S7 := same_gen hE ht1
      have q_t1 := at_gen hE
      clear hE
      repeat walk_at "vc"
      refine ⟨by simp [sizeLine], fun lg hlg => ?_⟩
      generalize hE : upd _ lg _ = G8
      have S8 := same_gen hE hlg
      have q_lg := at_gen hE
      clear hE
      repeat walk_at "vc"
      refine ⟨by simp [sizeLine], fun pa hpa => ?_⟩
      generalize hE : upd _ pa _ = G9
      have S9 := same_gen hE hpa
      have q_pa := at_gen hE
      clear hE
      refine k pa li lg ["a", "b"] _ [("c", .no (.orr (.w "a") (.w "d"))), ("d", .no (.orr (.w "b") (.w "c")))] _ ⟨q_pa, (S2.trans (S3.trans (S4.trans (S5.trans (S6.trans (S7.trans (S8.trans S9))))))) _ _ q_li, S9 _ _ q_lg, .cons ⟨t0, .ref n0, rfl, (S5.trans (S6.trans (S7.trans (S8.trans S9)))) _ _ q_t0, .no ((S4.trans (S5.trans (S6.trans (S7.trans (S8.trans S9))))) _ _ q_n0) (.orr ((S3.trans (S4.trans (S5.trans (S6.trans (S7.trans (S8.trans S9)))))) _ _ q_o0) (ra.mono (Same.tups (S1.trans (S2.trans (S3.trans (S4.trans (S5.trans (S6.trans (S7.trans (S8.trans S9)))))))))) (rd.mono (Same.tups (S1.trans (S2.trans (S3.trans (S4.trans (S5.trans (S6.trans (S7.trans (S8.trans S9)))))))))))⟩ (.cons ⟨t1, .ref n1, rfl, (S8.trans S9) _ _ q_t1, .no ((S7.trans (S8.trans S9)) _ _ q_n1) (.orr ((S6.trans (S7.trans (S8.trans S9))) _ _ q_o1) (rb.mono (Same.tups (S1.trans (S2.trans (S3.trans (S4.trans (S5.trans (S6.trans (S7.trans (S8.trans S9)))))))))) (rc.mono (Same.tups (S1.trans (S2.trans (S3.trans (S4.trans (S5.trans (S6.trans (S7.trans (S8.trans S9)))))))))))⟩ (.nil))⟩ ?_ (kpH.trans (Kp.of kpH.dk (S1.trans (S2.trans (S3.trans (S4.trans (S5.trans (S6.trans (S7.trans (S8.trans S9))))))))))
      exact netok_2
    have S0 : Same H' H' := Same.refl _
    repeat walk_at "vc"
    refine ⟨by simp [sizeLine], fun n0 hn0 => ?_⟩
    generalize hE : upd _ n0 _ = G1
    have S1 := same_gen hE hn0
    have q_n0 := at_gen hE
    clear hE
    repeat walk_at "vc"
    refine ⟨_, _, _, _, _, _, rfl, (ra.mono (Same.tups S1)), (.no q_n0 (rc.mono (Same.tups S1))), (rb.mono (Same.tups S1)), fun v0 G2 S2 r_v0 => ?_⟩
    repeat walk_at "vc"
    refine ⟨by simp [sizeLine], fun t0 ht0 => ?_⟩
    generalize hE : upd _ t0 _ = G3
    have S3 := same_gen hE ht0
    have q_t0 := at_gen hE
    clear hE
    repeat walk_at "vc"
    refine ⟨by simp [sizeLine], fun n1 hn1 => ?_⟩
    generalize hE : upd _ n1 _ = G4
    have S4 := same_gen hE hn1
    have q_n1 := at_gen hE
    clear hE
    repeat walk_at "vc"
    refine ⟨_, _, _, _, _, _, rfl, (rb.mono (Same.tups (S1.trans (S2.trans (S3.trans S4))))), (.no q_n1 (rd.mono (Same.tups (S1.trans (S2.trans (S3.trans S4)))))), (rc.mono (Same.tups (S1.trans (S2.trans (S3.trans S4))))), fun v1 G5 S5 r_v1 => ?_⟩
    repeat walk_at "vc"
    refine ⟨by simp [sizeLine], fun t1 ht1 => ?_⟩
    generalize hE : upd _ t1 _ = G6
    have S6 := same_gen hE ht1
    have q_t1 := at_gen hE
    clear hE
    repeat walk_at "vc"
    refine ⟨by simp [sizeLine], fun lg hlg => ?_⟩
    generalize hE : upd _ lg _ = G7
    have S7 := same_gen hE hlg
    have q_lg := at_gen hE
    clear hE
    have Hlg : H' lg = none := Same.free (S1.trans (S2.trans (S3.trans (S4.trans (S5.trans S6))))) hlg
    repeat walk_at "vc"
    refine ⟨i_tyL q_lg, ?_⟩
    repeat walk_at "vc"
    refine ⟨by simp [sizeLine], fun n2 hn2 => ?_⟩
    generalize hE : upd _ n2 _ = G8
    have S8 := same_gen hE hn2
    have q_n2 := at_gen hE
    clear hE
    repeat walk_at "vc"
    refine ⟨_, _, _, _, _, _, rfl, (rc.mono (Same.tups (S1.trans (S2.trans (S3.trans (S4.trans (S5.trans (S6.trans (S7.trans S8))))))))), (.no q_n2 (re.mono (Same.tups (S1.trans (S2.trans (S3.trans (S4.trans (S5.trans (S6.trans (S7.trans S8)))))))))), (rd.mono (Same.tups (S1.trans (S2.trans (S3.trans (S4.trans (S5.trans (S6.trans (S7.trans S8))))))))), fun v2 G9 S9 r_v2 => ?_⟩
    repeat walk_at "vc"
    refine ⟨by simp [sizeLine], fun t2 ht2 => ?_⟩
    generalize hE : upd _ t2 _ = G10
    have S10 := same_gen hE ht2
    have q_t2 := at_gen hE
    clear hE
    repeat walk_at "vc"
    refine i_app ((S8.trans (S9.trans S10)) _ _ q_lg) (by simp [sizeLine]) ?_
    generalize hE : upd _ lg _ = GA
    have SA : Same H' GA := by rw [← hE]; exact same_upd (S1.trans (S2.trans (S3.trans (S4.trans (S5.trans (S6.trans (S7.trans (S8.trans (S9.trans S10))))))))) Hlg
    have q_lgA := at_gen hE
    have u0 : GA t0 = some (.tup [.str "b", v0]) := by rw [← hE, upd_ne (ne_of ((S4.trans (S5.trans (S6.trans (S7.trans (S8.trans (S9.trans S10)))))) _ _ q_t0) ((S8.trans (S9.trans S10)) _ _ q_lg) (by intro h; cases h))]; exact (S4.trans (S5.trans (S6.trans (S7.trans (S8.trans (S9.trans S10)))))) _ _ q_t0
    have u1 : GA t1 = some (.tup [.str "c", v1]) := by rw [← hE, upd_ne (ne_of ((S7.trans (S8.trans (S9.trans S10))) _ _ q_t1) ((S8.trans (S9.trans S10)) _ _ q_lg) (by intro h; cases h))]; exact (S7.trans (S8.trans (S9.trans S10))) _ _ q_t1
    have u2 : GA t2 = some (.tup [.str "d", v2]) := by rw [← hE, upd_ne (ne_of ((Same.refl _) _ _ q_t2) ((S8.trans (S9.trans S10)) _ _ q_lg) (by intro h; cases h))]; exact (Same.refl _) _ _ q_t2
    have kA : KeepT G10 GA := fun b xs e => by rw [← hE, upd_ne (ne_of e ((S8.trans (S9.trans S10)) _ _ q_lg) (by intro h; cases h))]; exact e
    have w0 := (r_v0.mono (Same.tups (S3.trans (S4.trans (S5.trans (S6.trans (S7.trans (S8.trans (S9.trans S10))))))))).mono kA
    have w1 := (r_v1.mono (Same.tups (S6.trans (S7.trans (S8.trans (S9.trans S10)))))).mono kA
    have w2 := (r_v2.mono (Same.tups S10)).mono kA
    clear hE
    repeat walk_at "vc"
    refine ⟨by simp [sizeLine], fun li hli => ?_⟩
    generalize hE : upd _ li _ = GB
    have SB := same_gen hE hli
    have q_li := at_gen hE
    clear hE
    repeat walk_at "vc"
    refine ⟨by simp [sizeLine], fun pa hpa => ?_⟩
    generalize hE : upd _ pa _ = GC
    have SC := same_gen hE hpa
    have q_pa := at_gen hE
    clear hE
    refine k pa li lg ["a", "e"] _ [("b", heldR "a" (.no (.w "c")) "b"), ("c", heldR "b" (.no (.w "d")) "c"), ("d", heldR "c" (.no (.w "e")) "d")] _ ⟨q_pa, SC _ _ q_li, (SB.trans SC) _ _ q_lgA, .cons ⟨t0, v0, rfl, (SB.trans SC) _ _ u0, w0.mono (Same.tups (SB.trans SC))⟩ (.cons ⟨t1, v1, rfl, (SB.trans SC) _ _ u1, w1.mono (Same.tups (SB.trans SC))⟩ (.cons ⟨t2, v2, rfl, (SB.trans SC) _ _ u2, w2.mono (Same.tups (SB.trans SC))⟩ (.nil)))⟩ ?_ (kpH.trans (Kp.of kpH.dk (SA.trans (SB.trans SC))))
    exact netok_3
end
set_option Elab.async false
set_option linter.all false
set_option maxRecDepth 100000
set_option maxHeartbeats 4000000

theorem cut_from {xs : List V} {a : Nat} (h : a ≤ xs.length) : cutV xs (some (a : Int)) none = xs.drop a := by
  unfold cutV
  rw [HT.sIx_nat, HT.sIx_none, Nat.min_eq_left h, List.take_of_length_le (by rw [List.length_drop]; omega)]
theorem cut_to {xs : List V} {a : Nat} (h : a ≤ xs.length) : cutV xs none (some (a : Int)) = xs.take a := by
  unfold cutV
  rw [HT.sIx_nat, HT.sIx_none, Nat.min_eq_left h]
  simp
theorem notOwn_fresh {D : Dk} {H : Hp} {p : Addr} (DA : D.At H) (hp : H p = none) : ¬ D.own p := fun z => by
  obtain ⟨⟨n, hd⟩, _, _, _, pools⟩ := DA
  rcases z with z | z
  · rw [z, hd] at hp; cases hp
  · obtain ⟨a, b, c, e⟩ := pools p z
    rw [e] at hp; cases hp
section
variable {P : Program} {w : World} {K : PySem.W.Frag} {mg : Str → Option Value} {base : Heap} {TT : Addr}
theorem sc_law_net : FnScope ["deck", "inputs", "gates", "names", "found", "name", "deep"] ["deck"] (defScope (top 38)) := ⟨rfl, rfl, rfl, by decide +kernel, rfl, by decide +kernel, by decide +kernel⟩
theorem ok_net {f : Addr} {fd : FuncData} (Fu : Fun K "_law_net" "_law_net" (top 38) f fd) (T : Txt K mg TT) (f_law_draw : Fn P w K mg base "_law_draw" ["deck", "many"] 1 spDraw) (f_law_known : Fn P w K mg base "_law_known" ["deck"] 2 spNet)
    (f_law_names : Fn P w K mg base "_law_names" ["deck", "many"] 2 spNames) (f_law_rule : Fn P w K mg base "_law_rule" ["deck", "names", "deep"] 11 (spRule 10)) : FnOk P w K mg base CX0 12 f fd ["deck"] spNet := by
  have S := sc_law_net
  refine Fu.ok S (fun vs H Q E h => ?_) (fun cdv A outer s H vs Q E hr h => ?_)
  · obtain ⟨D, rfl, _⟩ := h
    rfl
  · obtain ⟨D, rfl, DA, k⟩ := h
    refine ⟨_, (pss_cons (ps_if (pt_cmpR op_eq (pe_fn f_law_draw (hr.mono (by first | decide | omega)) (by rfl) (pa_cons (pv 0) (pa_cons pe_int pa_nil se_con) se_name)) pe_int (nomark _)) (pss_one (ps_ret (pe_fn f_law_known (hr.mono (by first | decide | omega)) (by rfl) (pa_cons (pv 0) pa_nil se_name)))) pss_nil)
      (pss_cons (ps_set (i := 1) S.nd rfl (by first | exact Or.inl rfl | exact Or.inr rfl) (pe_fn f_law_draw (hr.mono (by first | decide | omega)) (by rfl) (pa_cons (pv 0) (pa_cons pe_int pa_nil se_con) se_name)))
      (pss_cons (ps_set (i := 2) S.nd rfl (by first | exact Or.inl rfl | exact Or.inr rfl) (pe_op op_add pe_int (pe_fn f_law_draw (hr.mono (by first | decide | omega)) (by rfl) (pa_cons (pv 0) (pa_cons pe_int pa_nil se_con) se_name))))
      (pss_cons (ps_set (i := 3) S.nd rfl (by first | exact Or.inl rfl | exact Or.inr rfl) (pe_fn f_law_names (hr.mono (by first | decide | omega)) (by rfl) (pa_cons (pv 0) (pa_cons (pe_op op_add (pv 1) (pv 2)) pa_nil) se_name)))
      (pss_cons (ps_set (i := 4) S.nd rfl (by first | exact Or.inl rfl | exact Or.inr rfl) (pe_lst pa_nil))
      (pss_cons (ps_for PassesOwn.never rfl (pi_list (pe_slice sl_list (pv 3) (po_some (pv 1)) po_none)) (pg_name (i := 5) S.nd rfl (by first | exact Or.inl rfl | exact Or.inr rfl))
      (pss_cons (ps_set (i := 6) S.nd rfl (by first | exact Or.inl rfl | exact Or.inr rfl) (pe_ix ix_list (pe_lst (pa_cons pe_int (pa_cons pe_int (pa_cons (pe_ix ix_list (pe_lst (pa_cons pe_int (pa_cons pe_int pa_nil se_con) se_con)) (pe_callTy call_int1 (by rfl) T.n_int PyProof.Rows.boot_int (pa_cons (pe_cmpR (op_eqL hr.units) (pv 4) (pe_lst pa_nil) (nomark _)) pa_nil)) (fun _ _ => rfl)) pa_nil) se_con) se_con)) (pe_fn f_law_draw (hr.mono (by first | decide | omega)) (by rfl) (pa_cons (pv 0) (pa_cons pe_int pa_nil se_con) se_name)) (fun _ _ => rfl)))
      (pss_one (ps_expr (pe_bm PySem.F.plainAttrs_list PySem.F.slot_list_append PySem.F.type_list_append mt_append (pv 4) (pa_cons (pe_tup (pa_cons (pv 5) (pa_cons (pe_fn f_law_rule (hr.mono (by first | decide | omega)) (by rfl) (pa_cons (pv 0) (pa_cons (pv 3) (pa_cons (pv 6) pa_nil se_name) se_name) se_name)) pa_nil se_call) se_name)) pa_nil se_tup))))))
      (pss_one (ps_ret (pe_tup (pa_cons (pe_slice sl_list (pv 3) po_none (po_some (pv 1))) (pa_cons (pv 4) pa_nil se_name))))))))))), ?_⟩
    try dsimp only [cxOf, Cx.nox, Cx.wish]
    rw [show L2.start ["deck", "inputs", "gates", "names", "found", "name", "deep"] [V.ref D.d] = [some (.ref D.d), none, none, none, none, none, none] from rfl]
    have big : 1000 < sizeLine := by decide
    repeat walk_at "vc"
    refine ⟨D, 5, rfl, DA, by decide, by decide, fun r H1 r0 r5 kp1 => ?_⟩
    repeat walk_at "vc"
    refine ite2 (fun _ => ?_) (fun _ => ?_)
    · repeat walk_at "vc"
      exact ⟨D, rfl, kp1.dk, fun a li lg ins gvs gs H' NA ok kq => k a li lg ins gvs gs H' NA ok (kp1.trans kq)⟩
    repeat walk_at "vc"
    refine ⟨D, 5, rfl, kp1.dk, by decide, by decide, fun ni H2 i0 i5 kp2 => ?_⟩
    repeat walk_at "vc"
    refine ⟨D, 7, rfl, kp2.dk, by decide, by decide, fun ng H3 g0 g7 kp3 => ?_⟩
    obtain ⟨I, rfl⟩ : ∃ I : Nat, ni = (I : Int) := ⟨ni.toNat, by omega⟩
    obtain ⟨G, rfl⟩ : ∃ G : Nat, ng = (G : Int) := ⟨ng.toNat, by omega⟩
    have kp13 := kp1.trans (kp2.trans kp3)
    repeat walk_at "vc"
    have en : (I : Int) + (1 + (G : Int)) = ((I + 1 + G : Nat) : Int) := by omega
    rw [en]
    refine ⟨D, I + 1 + G, rfl, kp3.dk, by omega, by omega, fun l ns H4 hn nd ln hl kp4 => ?_⟩
    have kp14 := kp13.trans kp4
    repeat walk_at "vc"
    refine ⟨by decide, fun p hp => ?_⟩
    generalize hE : upd _ p _ = H5
    have S5 := same_gen hE hp
    have q5 := at_gen hE
    clear hE
    have hl5 := S5 _ _ hl
    have Hp0 : H p = none := kp14.free hp
    have kp15 := kp14.trans (Kp.of kp14.dk S5)
    repeat walk_at "vc"
    have lns : (ns.map V.str).length = I + 1 + G := by rw [List.length_map]; exact hn
    refine i_slL (SqL.of hl5) fun q hq => ?_
    rw [cut_from (by rw [lns]; omega), ← List.map_drop]
    generalize hE : upd _ q _ = H6
    have S6 := same_gen hE hq
    have q6 := at_gen hE
    clear hE
    have kp16 := kp15.trans (Kp.of kp15.dk S6)
    have Hq0 : H q = none := kp15.free hq
    have npq : p ≠ q := ne_of_none q5 hq
    have nlq : l ≠ q := ne_of_none hl5 hq
    have nlp : l ≠ p := ne_of_none hl hp
    refine ⟨q, rfl, ⟨_, SqL.of q6⟩, ?_⟩
    refine for_list (K := K) (xs := (ns.drop I).map V.str) (fun j σ H' => ∃ x5 x6 gvs gs, σ = [some (.ref D.d), some (.int I), some (.int (1 + G)), some (.ref l), some (.ref p), x5, x6] ∧ gs.map (·.1) = (ns.drop I).take j ∧ gs.length = j ∧ H' p = some (.lst gvs) ∧ Paired (GAt H') gvs gs ∧ (∀ g ∈ gs, g.2.ok ns ∧ g.2.dep ≤ 10) ∧ H' l = some (.lst (ns.map V.str)) ∧ H' q = some (.lst ((ns.drop I).map V.str)) ∧ Kp D H H')
      ⟨none, none, [], [], rfl, rfl, rfl, S6 _ _ q5, .nil, (fun g h => nomatch h), S6 _ _ hl5, q6, kp16⟩ (fun j σ H' _ pv => ?_) (fun j x σ H' hx pv => ?_) (fun σ H' pv => ?_)
    · obtain ⟨_, _, _, _, _, _, _, _, _, _, _, h, _⟩ := pv
      exact SqL.of h
    · obtain ⟨x5, x6, gvs, gs, rfl, hgs, hj, hp', gts, gok, hl', hq', kp⟩ := pv
      rw [List.getElem?_map] at hx
      cases hnm : (ns.drop I)[j]? with
      | none => rw [hnm] at hx; cases hx
      | some nm =>
        rw [hnm] at hx
        cases hx
        have hjl : j < (ns.drop I).length := (List.getElem?_eq_some_iff.mp hnm).1
        rw [List.length_drop, hn] at hjl
        have lgv := paired_len gts
        refine s_name ?_
        repeat walk_at "vc"
        refine ⟨by simp [sizeLine], fun p1 hp1 => ?_⟩
        generalize hE : upd _ p1 _ = H7
        have S7 := same_gen hE hp1
        have q7 := at_gen hE
        clear hE
        repeat walk_at "vc"
        refine ⟨by simp [sizeLine], fun p2 hp2 => ?_⟩
        generalize hE : upd _ p2 _ = H8
        have S8 := same_gen hE hp2
        have q8 := at_gen hE
        clear hE
        have hp8 := (S7.trans S8) _ _ hp'
        refine ⟨p, p2, gvs, [], fun _ => true, rfl, rfl, SqL.of hp8, SqL.of q8, (fun j x y _ h => by simp at h), ?_⟩
        repeat walk_at "vc"
        obtain ⟨c, ec, hc⟩ : ∃ c : Nat, atI [V.int 4, V.int 10] (if (if false = true then !(gvs.length == ([] : List V).length && (List.range gvs.length).all fun _ => true) else (gvs.length == ([] : List V).length && (List.range gvs.length).all fun _ => true)) = true then 1 else 0) = some (.int c) ∧ (c = 4 ∨ c = 10) := by
          cases (if false = true then !(gvs.length == ([] : List V).length && (List.range gvs.length).all fun _ => true) else (gvs.length == ([] : List V).length && (List.range gvs.length).all fun _ => true)) with
          | true => exact ⟨10, rfl, .inr rfl⟩
          | false => exact ⟨4, rfl, .inl rfl⟩
        refine i_ixL (SqL.of (S8 _ _ q7)) ec ?_
        repeat walk_at "vc"
        refine ⟨by simp [sizeLine], fun p3 hp3 => ?_⟩
        generalize hE : upd _ p3 _ = H9
        have S9 := same_gen hE hp3
        have q9 := at_gen hE
        clear hE
        have S79 := S7.trans (S8.trans S9)
        have kp9 := kp.trans (Kp.of kp.dk S79)
        have own3 : ¬ D.own p3 := notOwn_fresh (kp.trans (Kp.of kp.dk (S7.trans S8))).dk hp3
        have NA9 := gates_mono (Same.tups S79) gts
        repeat walk_at "vc"
        refine ⟨D, 3, rfl, kp9.dk, by decide, by decide, fun r H10 r0 r3 k10 => ?_⟩
        have hp10 := k10.refs kp9.dk (S79 _ _ hp') (gates_refs gts)
        have hl10 := k10.strs kp9.dk (S79 _ _ hl')
        have hq10 := k10.strs kp9.dk (S79 _ _ hq')
        have g10 := gates_mono (k10.tups kp9.dk) NA9
        have kp10 := kp9.trans k10
        obtain ⟨dp, ed, d1, d10⟩ : ∃ dp : Nat, atI [V.int 3, V.int 4, V.int c] r = some (.int dp) ∧ 1 ≤ dp ∧ dp ≤ 10 := by
          have : r = 0 ∨ r = 1 ∨ r = 2 := by omega
          rcases this with z | z | z
          · subst z; exact ⟨3, rfl, by omega, by omega⟩
          · subst z; exact ⟨4, rfl, by omega, by omega⟩
          · subst z; exact ⟨c, rfl, by omega, by omega⟩
        refine i_ixL (SqL.of (k10.old _ _ q9 own3)) ed ?_
        repeat walk_at "vc"
        refine ⟨i_tyL hp10, ?_⟩
        repeat walk_at "vc"
        refine ⟨D, l, ns, dp, rfl, kp10.dk, hl10, (fun z => by rw [z] at hn; simp at hn; omega), by omega, d1, d10, fun v rr H11 ra rok rd k11 => ?_⟩
        have hp11 := k11.refs kp10.dk hp10 (gates_refs gts)
        have hl11 := k11.strs kp10.dk hl10
        have hq11 := k11.strs kp10.dk hq10
        have g11 := gates_mono (k11.tups kp10.dk) g10
        have kp11 := kp10.trans k11
        repeat walk_at "vc"
        refine ⟨by simp [sizeLine], fun t ht => ?_⟩
        generalize hE : upd _ t _ = H12
        have S12 := same_gen hE ht
        have q12 := at_gen hE
        clear hE
        repeat walk_at "vc"
        refine i_app (S12 _ _ hp11) (by omega) ?_
        have kt : KeepT H12 (upd H12 p (.lst (gvs ++ [.ref t]))) := fun b xs eb => by
          have nb : b ≠ p := fun z => by rw [z, S12 _ _ hp11] at eb; cases eb
          rw [upd_ne nb]; exact eb
        refine ⟨_, _, gvs ++ [.ref t], gs ++ [(nm, rr)], rfl, ?_, by simp [hj], upd_same, paired_snoc (gates_mono kt (gates_mono (Same.tups S12) g11)) ⟨t, v, rfl, kt _ _ q12, (ra.mono (Same.tups S12)).mono kt⟩, fun g hg' => ?_, by rw [upd_ne nlp]; exact S12 _ _ hl11, by rw [upd_ne npq.symm]; exact S12 _ _ hq11, Kp.fresh DA Hp0 (kp11.trans (Kp.of kp11.dk S12))⟩
        · rw [List.map_append, hgs, List.take_succ, hnm]; rfl
        · rcases List.mem_append.mp hg' with h | h
          · exact gok g h
          · have : g = (nm, rr) := by simpa using h
            rw [this]
            exact ⟨rok, by show rr.dep ≤ 10; omega⟩
    · obtain ⟨x5, x6, gvs, gs, rfl, hgs, hj, hp', gts, gok, hl', hq', kp⟩ := pv
      have fin : tRet (tTup (tCons (tSl (rSlL K) (tVar 3) tNoPart (tPart (tVar 1))) (tCons (tVar 4) tNil))) { nx := fun x H' => Q V.non H', rt := Q } [some (.ref D.d), some (.int I), some (.int (1 + G)), some (.ref l), some (.ref p), x5, x6] H' := by
        repeat walk_at "vc"
        refine i_slL (SqL.of hl') fun li hli => ?_
        rw [cut_to (by rw [lns]; omega), ← List.map_take]
        generalize hE : upd _ li _ = H7
        have S7 := same_gen hE hli
        have q7 := at_gen hE
        clear hE
        repeat walk_at "vc"
        refine ⟨by simp [sizeLine], fun pa hpa => ?_⟩
        generalize hE : upd _ pa _ = H8
        have S8 := same_gen hE hpa
        have q8 := at_gen hE
        clear hE
        rw [List.length_map, List.length_drop, hn] at hj hgs
        have ew : wiresN (ns.take I) gs = ns := by
          unfold wiresN
          have e2 : (ns.drop I).take (I + 1 + G - I) = ns.drop I := List.take_of_length_le (by rw [List.length_drop, hn]; exact Nat.le_refl _)
          rw [hgs, e2, List.take_append_drop]
        refine k pa li p (ns.take I) gvs gs H8 ⟨q8, S8 _ _ q7, (S7.trans S8) _ _ hp', gates_mono (Same.tups (S7.trans S8)) gts⟩ ⟨⟨by rw [List.length_take]; omega, by omega, fun g hg' => by rw [ew]; exact gok g hg', by rw [ew]; exact ln⟩, by rw [List.length_take]; omega, by omega, by omega, by rw [ew]; exact nd⟩ (kp.trans (Kp.of kp.dk (S7.trans S8)))
      exact fin
end
end K2
set_option Elab.async false
set_option linter.all false
set_option maxRecDepth 100000
set_option maxHeartbeats 4000000
namespace K2
open PySem L2
local macro_rules | `(tactic| walk_at "vc") => `(tactic| first
  | ((refine' (?zz : (?zA → ?zG) → ?zA → ?zG) ?zr ?_); (case zr => with_reducible exact s_seqT); (case zz => exact fun _ q => q); intro D') | ((refine' (?zz : (?zA → ?zG) → ?zA → ?zG) ?zr ?_); (case zr => with_reducible exact s_nameT); (case zz => exact fun _ q => q); intro σ') | ((refine' (?zz : (?zA → ?zG) → ?zA → ?zG) ?zr ?_); (case zr => with_reducible first | exact s_asg | exact s_drop | exact s_ret | exact s_if | exact s_sub | exact s_next | exact i_c | exact i_op | exact i_test | exact i_tB | exact i_and | exact i_or | exact i_not | exact i_andV | exact i_orV | exact i_notV | exact i_ifE | exact i_nil | exact i_cons | exact i_cb | exact i_tup | exact i_lst | exact i_bm | exact i_sl | exact i_nopart | exact i_part | exact s_for | exact s_rng1 | exact s_list | exact s_str | exact i_dget | exact i_yes | exact i_un); (case zz => exact fun _ q => q))
  | ((with_reducible refine' i_var ?hv ?_); (case hv => exact rfl))   | (with_reducible first | refine i_rI0 ?_ | refine i_call ?_ | refine s_strI ?_ | refine iteF ?_ | refine iteT ?_ | refine i_rU ?_)
  | ((with_reducible show ∃ i, V.int _ = V.int i ∧ _); (refine ⟨_, rfl, ?_⟩)) | ((with_reducible show ∃ k, V.bl _ = V.bl k ∧ _); (refine ⟨_, rfl, ?_⟩)) | ((with_reducible show (∃ i, [V.bl _] = [V.int i] ∧ _) ∨ _); (refine Or.inr ⟨_, rfl, ?_⟩))
  | ((with_reducible refine' i_ixL ?ha ?hb ?_); (case ha => exact SqL.of (by assumption)); (case hb => exact rfl)) | ((with_reducible refine' i_ixT ?ha ?hb ?_); (case ha => assumption); (case hb => exact rfl))
  | ((with_reducible show ∃ p _, [V.ref _] = [V.ref p] ∧ (SqL _ _ _ _ ∨ SqT _ _ _ _) ∧ _); (refine' ⟨_, _, rfl, Or.inl (SqL.of ?ha), ?_⟩); (case ha => assumption)) | ((with_reducible refine' s_setL ?ha ?hb ?_); (case ha => assumption); (case hb => exact rfl))
  | ((with_reducible refine' i_eq ?ha ?_); (case ha => exact rfl)) | ((with_reducible refine' i_ne ?ha ?_); (case ha => exact rfl))
  | ((with_reducible show ∃ z, V.str _ = V.str z ∧ _); (refine ⟨_, rfl, ?_⟩))
  | ((with_reducible refine' i_rI ?hv ?_); (case hv => first | decide | (dsimp only; omega) | exact .inl ⟨by omega, by omega⟩ | exact .inr ⟨by omega, by omega⟩ | exact ⟨by decide, by decide⟩ | exact ⟨by decide, by decide, by decide⟩ | exact ⟨by omega, by omega⟩))
  | ((with_reducible show ∃ i, [V.int _] = [V.int i] ∧ _); (refine ⟨_, rfl, ?_⟩))
  | ((with_reducible show tyV _ "list" _ _ ∧ _); (refine' ⟨i_tyL ?ha, ?_⟩); (case ha => assumption)))

noncomputable def ren (π : Str → Str) : Rl → Rl
  | .w n => .w (π n)
  | .no r => .no (ren π r)
  | .an a b => .an (ren π a) (ren π b)
  | .orr a b => .orr (ren π a) (ren π b)
theorem ren_val {π : Str → Str} {ws : List Str} {F G : Str → Bool} (h : ∀ n ∈ ws, G (π n) = F n) : ∀ r : Rl, r.ok ws → (ren π r).val G = r.val F
  | .w n => fun q => h n q
  | .no r => fun q => by show (!(ren π r).val G) = !r.val F; rw [ren_val h r q]
  | .an a b => fun q => by show ((ren π a).val G && (ren π b).val G) = (a.val F && b.val F); rw [ren_val h a q.1, ren_val h b q.2]
  | .orr a b => fun q => by show ((ren π a).val G || (ren π b).val G) = (a.val F || b.val F); rw [ren_val h a q.1, ren_val h b q.2]
theorem ren_ok {π : Str → Str} {ws vs : List Str} (h : ∀ n ∈ ws, π n ∈ vs) : ∀ r : Rl, r.ok ws → (ren π r).ok vs
  | .w n => fun q => h n q
  | .no r => fun q => ren_ok h r q
  | .an a b => fun q => ⟨ren_ok h a q.1, ren_ok h b q.2⟩
  | .orr a b => fun q => ⟨ren_ok h a q.1, ren_ok h b q.2⟩
theorem ren_dep (π : Str → Str) : ∀ r : Rl, (ren π r).dep = r.dep
  | .w n => rfl
  | .no r => by show (ren π r).dep + 1 = r.dep + 1; rw [ren_dep π r]
  | .an a b => by show max (ren π a).dep (ren π b).dep + 1 = max a.dep b.dep + 1; rw [ren_dep π a, ren_dep π b]
  | .orr a b => by show max (ren π a).dep (ren π b).dep + 1 = max a.dep b.dep + 1; rw [ren_dep π a, ren_dep π b]
noncomputable def rg (π : Str → Str) (g : Str × Rl) : Str × Rl := (π g.1, ren π g.2)
structure Oth (π : Str → Str) (ins : List Str) (gs : List (Str × Rl)) (ins' : List Str) (gs' : List (Str × Rl)) : Prop where
  pi : ins'.Perm (ins.map π)
  pg : gs'.Perm (gs.map (rg π))
  inj : ∀ a ∈ wiresN ins gs, ∀ b ∈ wiresN ins gs, π a = π b → a = b
  low : ∀ a ∈ wiresN ins gs, Low (π a)
theorem Oth.wires {π : Str → Str} {ins ins' : List Str} {gs gs' : List (Str × Rl)} (o : Oth π ins gs ins' gs') : (wiresN ins' gs').Perm ((wiresN ins gs).map π) := by
  unfold wiresN
  rw [List.map_append, List.map_map]
  refine o.pi.append ?_
  have h := o.pg.map (·.1)
  rw [List.map_map] at h
  exact h
theorem map_nodup {π : Str → Str} : ∀ {ws : List Str}, ws.Nodup → (∀ a ∈ ws, ∀ b ∈ ws, π a = π b → a = b) → (ws.map π).Nodup
  | [], _, _ => List.nodup_nil
  | w :: ws, nd, h => by
    rw [List.nodup_cons] at nd
    rw [List.map_cons, List.nodup_cons]
    refine ⟨fun m => ?_, map_nodup nd.2 fun a ha b hb => h a (List.mem_cons_of_mem _ ha) b (List.mem_cons_of_mem _ hb)⟩
    obtain ⟨u, hu, e⟩ := List.mem_map.mp m
    have := h u (List.mem_cons_of_mem _ hu) w (by simp) e
    exact nd.1 (this ▸ hu)
theorem Oth.net {π : Str → Str} {ins ins' : List Str} {gs gs' : List (Str × Rl)} (o : Oth π ins gs ins' gs') (q : NetQ ins gs) : NetQ ins' gs' := by
  obtain ⟨ok, i4, g1, g7, nd⟩ := q
  have l1 := o.pi.length_eq
  have l2 := o.pg.length_eq
  rw [List.length_map] at l1 l2
  have hw := o.wires
  refine ⟨⟨by omega, by omega, fun g hg => ?_, fun n hn => ?_⟩, by omega, by omega, by omega, hw.nodup_iff.mpr (map_nodup nd o.inj)⟩
  · obtain ⟨g0, hg0, rfl⟩ := List.mem_map.mp (o.pg.mem_iff.mp hg)
    obtain ⟨r1, r2⟩ := ok.rules g0 hg0
    exact ⟨ren_ok (fun n hn => hw.mem_iff.mpr (List.mem_map_of_mem hn)) _ r1, by show (ren π g0.2).dep ≤ 10; rw [ren_dep]; exact r2⟩
  · obtain ⟨m, hm, rfl⟩ := List.mem_map.mp (hw.mem_iff.mp hn)
    exact o.low m hm
noncomputable def gF (π : Str → Str) (ws : List Str) (F : Str → Bool) (m : Str) : Bool := match ws.find? (fun n => decide (π n = m)) with
  | some n => F n
  | none => false
theorem gF_at {π : Str → Str} {ws : List Str} (inj : ∀ a ∈ ws, ∀ b ∈ ws, π a = π b → a = b) (F : Str → Bool) {n : Str} (hn : n ∈ ws) : gF π ws F (π n) = F n := by
  unfold gF
  cases h : ws.find? (fun m => decide (π m = π n)) with
  | none =>
    have := List.find?_eq_none.mp h n hn
    simp at this
  | some m =>
    have h1 := List.find?_some h
    have h2 := List.mem_of_find?_eq_some h
    have := inj m h2 n hn (of_decide_eq_true h1)
    rw [this]
theorem gF_fl {π : Str → Str} {ws : List Str} (inj : ∀ a ∈ ws, ∀ b ∈ ws, π a = π b → a = b) (F : Str → Bool) {n m : Str} (hn : n ∈ ws) (hm : m ∈ ws) : gF π ws (fl n F) (π m) = fl (π n) (gF π ws F) (π m) := by
  rw [gF_at inj _ hm]
  unfold fl
  rw [gF_at inj _ hm]
  by_cases c : m = n
  · rw [if_pos c, if_pos (by rw [c])]
  · rw [if_neg c, if_neg fun e => c (inj m hm n hn e)]
theorem Oth.fl {π : Str → Str} {ins ins' : List Str} {gs gs' : List (Str × Rl)} (o : Oth π ins gs ins' gs') (F : Str → Bool) {n : Str} (hn : n ∈ wiresN ins gs) : rowT (K2.fl (π n) (gF π (wiresN ins gs) F)) (wiresN ins' gs') = rowT (gF π (wiresN ins gs) (K2.fl n F)) (wiresN ins' gs') := row_eq fun m hm => by
  obtain ⟨u, hu, rfl⟩ := List.mem_map.mp (o.wires.mem_iff.mp hm)
  exact (gF_fl o.inj F hn hu).symm
theorem Oth.ask {π : Str → Str} {ins ins' : List Str} {gs gs' : List (Str × Rl)} (o : Oth π ins gs ins' gs') (ok : NetOk ins gs) (F : Str → Bool) : (askF (gF π (wiresN ins gs) F) gs').Perm ((askF F gs).map π) := by
  unfold askF
  have h := (o.pg.filter fun g => !(g.2.val (gF π (wiresN ins gs) F) == gF π (wiresN ins gs) F g.1)).map (·.1)
  refine h.trans ?_
  rw [List.filter_map, List.map_map, List.map_map]
  refine List.Perm.of_eq ?_
  have e : gs.filter ((fun g : Str × Rl => !(g.2.val (gF π (wiresN ins gs) F) == gF π (wiresN ins gs) F g.1)) ∘ rg π) = gs.filter fun g => !(g.2.val F == F g.1) := by
    refine List.filter_congr fun g hg => ?_
    have hn : g.1 ∈ wiresN ins gs := by unfold wiresN; exact List.mem_append.mpr (.inr (List.mem_map_of_mem hg))
    show (!((ren π g.2).val _ == gF π _ F (π g.1))) = _
    rw [ren_val (fun n hn => gF_at o.inj F hn) g.2 (ok.rules g hg).1, gF_at o.inj F hn]
  rw [e]
  rfl
noncomputable def kindR : Rl → Str
  | .w _ => "wire"
  | .no _ => "not"
  | .an _ _ => "and"
  | .orr _ _ => "or"
noncomputable def argsR : Rl → List Rl
  | .w _ => []
  | .no r => [r]
  | .an a b => [a, b]
  | .orr a b => [a, b]
theorem rat_args {H : Hp} {v : V} {r : Rl} (h : RAt H v r) : (∃ b n, v = .ref b ∧ r = .w n ∧ H b = some (.tup [.str "wire", .str n])) ∨ ∃ b as, v = .ref b ∧ kindR r ≠ "wire" ∧ H b = some (.tup (.str (kindR r) :: as)) ∧ Paired (RAt H) as (argsR r) ∧ 1 ≤ as.length ∧ as.length ≤ 2 := by
  cases h with
  | w hb => exact .inl ⟨_, _, rfl, rfl, hb⟩
  | no hb h1 => exact .inr ⟨_, _, rfl, by show ("not" : Str) ≠ "wire"; decide +kernel, hb, .cons h1 .nil, by simp, by simp⟩
  | an hb h1 h2 => exact .inr ⟨_, _, rfl, by show ("and" : Str) ≠ "wire"; decide +kernel, hb, .cons h1 (.cons h2 .nil), by simp, by simp⟩
  | orr hb h1 h2 => exact .inr ⟨_, _, rfl, by show ("or" : Str) ≠ "wire"; decide +kernel, hb, .cons h1 (.cons h2 .nil), by simp, by simp⟩
theorem rat_ren {H : Hp} {b : Addr} {π : Str → Str} {as : List V} : ∀ {r : Rl}, kindR r ≠ "wire" → H b = some (.tup (.str (kindR r) :: as)) → Paired (fun v s => RAt H v (ren π s)) as (argsR r) → RAt H (.ref b) (ren π r)
  | .w n, h, _, _ => absurd rfl h
  | .no r, _, e, .cons h1 .nil => .no e h1
  | .an x y, _, e, .cons h1 (.cons h2 .nil) => .an e h1 h2
  | .orr x y, _, e, .cons h1 (.cons h2 .nil) => .orr e h1 h2
theorem args_ok {ws : List Str} {r s : Rl} (h : r.ok ws) (m : s ∈ argsR r) : s.ok ws ∧ s.dep + 1 ≤ r.dep := by
  cases r with
  | w n => cases m
  | no r => rw [List.mem_singleton.mp m]; exact ⟨h, Nat.le_refl _⟩
  | an a b =>
    rcases List.mem_cons.mp m with e | e
    · rw [e]; exact ⟨h.1, by show a.dep + 1 ≤ max a.dep b.dep + 1; omega⟩
    · rw [List.mem_singleton.mp e]; exact ⟨h.2, by show b.dep + 1 ≤ max a.dep b.dep + 1; omega⟩
  | orr a b =>
    rcases List.mem_cons.mp m with e | e
    · rw [e]; exact ⟨h.1, by show a.dep + 1 ≤ max a.dep b.dep + 1; omega⟩
    · rw [List.mem_singleton.mp e]; exact ⟨h.2, by show b.dep + 1 ≤ max a.dep b.dep + 1; omega⟩
noncomputable def NMap (kvs : List (Key × V)) (ws : List Str) (π : Str → Str) : Prop := ∀ n ∈ ws, valV kvs (Sum.inr n : Key) = some (.str (π n))
noncomputable def spRen (d : Nat) : Sp := fun vs H Q _ => ∃ (v : V) (r : Rl) (nd : Addr) (kvs : List (Key × V)) (ws : List Str) (π : Str → Str), vs = [v, .ref nd] ∧ RAt H v r ∧ r.dep ≤ d ∧ r.ok ws ∧ H nd = some (.dK kvs) ∧ NMap kvs ws π ∧ ∀ u H', Same H H' → RAt H' u (ren π r) → Q u H'
noncomputable def spShuf : Sp := fun vs H Q _ => ∃ (D : Dk) (l : Addr) (xs : List V), vs = [.ref D.d, .ref l] ∧ D.At H ∧ H l = some (.lst xs) ∧ xs.length ≤ 100 ∧ (∀ i : Int, V.int i ∉ xs) ∧ ∀ p ys H', H p = none → H' p = some (.lst ys) → ys.Perm xs → Kp D H H' → Q (.ref p) H'
theorem op_isB {X : Cx} : OpR X (compareOp .Is) (fun x y H Q => ∃ b c, x = .bl b ∧ y = .bl c ∧ Q (.bl (b == c)) H) := by
  intro pins s σ H x y v u Q I rx ry h
  obtain ⟨b, c, rfl, rfl, q⟩ := h
  cases rx
  cases ry
  exact PyProof.Rows.is_bool (fin_bl I q rfl)
theorem perm_erase {α : Type} : ∀ (xs : List α) (k : Nat) (h : k < xs.length), (xs[k] :: xs.eraseIdx k).Perm xs
  | x :: xs, 0, _ => List.Perm.refl _
  | x :: xs, k + 1, h => by
    have ih := perm_erase xs k (by simpa using h)
    rw [List.eraseIdx_cons_succ]
    exact (List.Perm.swap x _ _).trans (ih.cons x)
section
variable {P : Program} {w : World} {K : PySem.W.Frag} {mg : Str → Option Value} {base : Heap} {TT : Addr}
theorem sc_law_shuffled : FnScope ["deck", "row", "left", "found", "k"] ["deck", "row"] (defScope (top 41)) := ⟨rfl, rfl, rfl, by decide +kernel, rfl, by decide +kernel, by decide +kernel⟩
theorem ok_shuf {f : Addr} {fd : FuncData} (Fu : Fun K "_law_shuffled" "_law_shuffled" (top 41) f fd) (T : Txt K mg TT) (f_law_draw : Fn P w K mg base "_law_draw" ["deck", "many"] 1 spDraw) : FnOk P w K mg base CX0 2 f fd ["deck", "row"] spShuf := by
  have S := sc_law_shuffled
  refine Fu.ok S (fun vs H Q E h => ?_) (fun cdv A outer s H vs Q E hr h => ?_)
  · obtain ⟨D, l, xs, rfl, _⟩ := h
    rfl
  · obtain ⟨D, l, xs, rfl, DA, hl, few, noint, k⟩ := h
    have big : 1000 < sizeLine := by decide
    refine ⟨_, (pss_cons (ps_set (i := 2) S.nd rfl (by first | exact Or.inl rfl | exact Or.inr rfl) (pe_callTy call_list_of (by rfl) T.n_list PyProof.Rows.boot_list (pa_cons (pv 1) pa_nil)))
      (pss_cons (ps_set (i := 3) S.nd rfl (by first | exact Or.inl rfl | exact Or.inr rfl) (pe_lst pa_nil))
      (pss_cons (ps_for PassesOwn.never rfl (pi_range1 (by rfl) T.n_range (pa_cons (pe_callB call_len_seq (by rfl) T.n_len PySem.boot_len (pa_cons (pv 1) pa_nil)) pa_nil)) (pg_name (i := 4) S.nd rfl (by first | exact Or.inl rfl | exact Or.inr rfl))
      (pss_one (ps_expr (pe_bm PySem.F.plainAttrs_list PySem.F.slot_list_append PySem.F.type_list_append mt_append (pv 3) (pa_cons (pe_bm PySem.F.plainAttrs_list PySem.F.slot_list_pop PySem.F.type_list_pop mt_popAt (pv 2) (pa_cons (pe_fn f_law_draw (hr.mono (by first | decide | omega)) (by rfl) (pa_cons (pv 0) (pa_cons (pe_callB call_len_seq (by rfl) T.n_len PySem.boot_len (pa_cons (pv 2) pa_nil)) pa_nil))) pa_nil)) pa_nil)))))
      (pss_one (ps_ret (pv 3)))))), ?_⟩
    try dsimp only [cxOf, Cx.nox, Cx.wish]
    rw [show L2.start ["deck", "row", "left", "found", "k"] [V.ref D.d, V.ref l] = [some (.ref D.d), some (.ref l), none, none, none] from rfl]
    repeat walk_at "vc"
    intro lf hlf
    generalize hE : upd H lf _ = H1
    obtain ⟨S1, q1⟩ := upd_pair hlf hE
    clear hE
    repeat walk_at "vc"
    refine ⟨by show 0 ≤ _; omega, fun fo hfo => ?_⟩
    generalize hE : upd H1 fo _ = H2
    obtain ⟨S2, q2⟩ := upd_pair hfo hE
    clear hE
    have n1 : ¬ D.own lf := notOwn_fresh DA hlf
    have Hfo : H fo = none := Same.free S1 hfo
    have n2 : ¬ D.own fo := notOwn_fresh DA Hfo
    have nlf : lf ≠ fo := ne_of_none q1 hfo
    have hl2 := (S1.trans S2) _ _ hl
    repeat walk_at "vc"
    refine ⟨by omega, by omega, ?_⟩
    rw [Int.toNat_natCast]
    refine for_range (n := xs.length) (fun i σ H' => ∃ (ys zs : List V), ∃ x4, σ = [some (.ref D.d), some (.ref l), some (.ref lf), some (.ref fo), x4] ∧ Kp D H H' ∧ H' lf = some (.lst zs) ∧ H' fo = some (.lst ys) ∧ (ys ++ zs).Perm xs ∧ ys.length = i) ⟨[], xs, _, rfl, Kp.of DA (S1.trans S2), S2 _ _ q1, q2, List.Perm.refl _, rfl⟩ (fun i σ H' hi pv => ?_) (fun σ H' pv => ?_)
    · obtain ⟨ys, zs, x4, rfl, kp, hz, hy, pm, yl⟩ := pv
      have pl := pm.length_eq
      rw [List.length_append] at pl
      refine s_name ?_
      repeat walk_at "vc"
      refine ⟨D, _, rfl, kp.dk, by omega, by omega, fun r H3 r0 r1 k3 => ?_⟩
      have hz3 := k3.old _ _ hz n1
      have hy3 := k3.old _ _ hy n2
      have hjl : r.toNat < zs.length := by omega
      refine i_nil ?_
      refine ⟨lf, zs, r, r.toNat, zs[r.toNat], rfl, rfl, hz3, by omega, by omega, ?_, List.getElem?_eq_getElem hjl, ?_⟩
      · have : ixN zs.length r = some r.toNat := by unfold ixN; rw [if_pos r0, if_pos r1]
        exact (ixN_seq this).1
      generalize hE : upd H3 lf _ = H4
      have l4 : H4 lf = some (.lst (zs.eraseIdx r.toNat)) := by rw [← hE, upd_same]
      have n4 : H4 fo = some (.lst ys) := by rw [← hE, upd_ne nlf.symm]; exact hy3
      have k4 : Kp D H H4 := by rw [← hE]; exact Kp.fresh DA hlf (kp.trans k3)
      clear hE
      refine i_nil ?_
      refine i_app n4 (by omega) ?_
      refine ⟨ys ++ [zs[r.toNat]], zs.eraseIdx r.toNat, _, rfl, Kp.fresh DA Hfo k4, by rw [upd_ne nlf]; exact l4, upd_same, ?_, by simp [yl]⟩
      rw [List.append_assoc]
      exact (List.Perm.append_left ys (perm_erase zs r.toNat hjl)).trans pm
    · obtain ⟨ys, zs, x4, rfl, kp, hz, hy, pm, yl⟩ := pv
      have pl := pm.length_eq
      rw [List.length_append] at pl
      have ez : zs = [] := List.length_eq_zero_iff.mp (by omega)
      rw [ez, List.append_nil] at pm
      repeat walk_at "vc"
      exact k fo ys H' Hfo hy pm kp
theorem sc_law_renamed : FnScope ["rule", "names"] ["rule", "names"] (defScope (top 40)) := ⟨rfl, rfl, rfl, by decide +kernel, rfl, by decide +kernel, by decide +kernel⟩
theorem ok_ren {f : Addr} {fd : FuncData} (Fu : Fun K "_law_renamed" "_law_renamed" (top 40) f fd) (T : Txt K mg TT) (hm : mg "_law_renamed" = some (.ref f)) (hk : PySem.W.keepIn K (.ref f) = true) (hb : Binds K fd ["rule", "names"] []) : ∀ d, FnOk P w K mg base CX0 d f fd ["rule", "names"] (spRen d)
  | 0 => fnok_false fun vs H Q E ⟨v, r, nd, kvs, ws, π, _, _, h, _⟩ => by have := dep_pos r; omega
  | d + 1 => by
    have S := sc_law_renamed
    have f_law_renamed : Fn P w K mg base "_law_renamed" ["rule", "names"] d (spRen d) := ⟨f, fd, ok_ren Fu T hm hk hb d, hm, hk, hb⟩
    refine Fu.ok S (fun vs H Q E h => ?_) (fun cdv A outer s H vs Q E hr h => ?_)
    · obtain ⟨v, r, nd, kvs, ws, π, rfl, _⟩ := h
      rfl
    · obtain ⟨v, r, nd, kvs, ws, π, rfl, ra, hd, rok, hn, nm, q⟩ := h
      have hu := hu_of hr
      have big : 1000 < sizeLine := by decide
      refine' ⟨?_, (pss_cons (ps_if ?h0 (pss_one ?h1) pss_nil) (pss_one ?h2)), ?_⟩
      case h0 => exact (pt_cmpR op_eq (pe_ix ix_tup (pv 0) pe_int (fun _ _ => rfl)) pe_str (nomark _))
      case h1 => exact (ps_ret (pe_tup (pa_cons pe_str (pa_cons (pe_dget hu (pv 1) (pe_ix ix_tup (pv 0) pe_int (fun _ _ => rfl)) (fun _ _ => rfl)) pa_nil))))
      case h2 => exact (ps_ret (pe_op op_catT (pe_tup (pa_cons (pe_ix ix_tup (pv 0) pe_int (fun _ _ => rfl)) pa_nil)) (pe_callTy call_tuple_of (by rfl) T.n_tuple PyProof.Rows.boot_tuple (pa_cons (pe_lc (tgs := ["one"]) (cap := [("names", 1)]) rfl ⟨rfl, rfl, rfl, rfl, rfl, rfl⟩ (pi_tup (pe_slice sl_tup (pv 0) (po_some pe_int) po_none)) (fun _ _ _ _ => (pg_name (i := 0) (show List.Nodup [("one" : Str), ("names" : Str)] by decide +kernel) rfl (by first | exact Or.inl rfl | exact Or.inr rfl))) (fun _ _ _ _ => pifs_nil) (fun _ _ _ _ => (pe_fn f_law_renamed (hr.mono (by first | decide | omega)) (by rfl) (pa_cons (pv 0) (pa_cons (pv 1) pa_nil))))) pa_nil))))
      try dsimp only [cxOf, Cx.nox, Cx.wish]
      rw [show L2.start ["rule", "names"] [v, V.ref nd] = [some v, some (.ref nd)] from rfl]
      rcases rat_args ra with ⟨b, n, rfl, rfl, hb⟩ | ⟨b, as, rfl, nw, hb, pa, a1, a2⟩
      · repeat walk_at "vc"
        refine ifT (by decide +kernel) ?_
        repeat walk_at "vc"
        have vn := nm n rok
        refine ⟨nd, _, rfl, by rw [← vn]; exact DGet.k (k := Sum.inr n) hn, ?_⟩
        repeat walk_at "vc"
        refine ⟨by show 2 ≤ _; omega, fun p hp => ?_⟩
        exact q (.ref p) _ (fresh_same hp) (.w upd_same)
      · repeat walk_at "vc"
        refine i_ixT hb (atI_nat (j := 0) rfl) ?_
        repeat walk_at "vc"
        refine ifF (decide_eq_false fun h => by injection h with h; exact nw h) ?_
        repeat walk_at "vc"
        refine i_ixT hb (atI_nat (j := 0) rfl) ?_
        repeat walk_at "vc"
        refine ⟨by show 1 ≤ _; omega, fun p1 hp1 => ?_⟩
        generalize hE : upd H p1 _ = H1
        obtain ⟨S1, q1⟩ := upd_pair hp1 hE
        clear hE
        have hb1 := S1 _ _ hb
        have hn1 := S1 _ _ hn
        repeat walk_at "vc"
        refine i_comp (s_tup ?_)
        repeat walk_at "vc"
        refine ⟨b, _, rfl, SqT.of hb1, ?_, fun c hc => ?_⟩
        · intro h
          have h1 := h.1
          rw [List.length_cons, six_one] at h1
          cases h1
        rw [cut_one]
        generalize hE : upd H1 c _ = H2
        obtain ⟨S2, q2⟩ := upd_pair hc hE
        clear hE
        have S02 := S1.trans S2
        have hn2 := S2 _ _ hn1
        have pl := paired_len pa
        refine ⟨c, rfl, ⟨_, SqT.of q2⟩, fun L hL => ?_⟩
        refine comp_tup (xs := as) (fun m H' ys => Same H2 H' ∧ H' L = some (.lst ys) ∧ Paired (fun v s => RAt H' v (ren π s)) ys ((argsR r).take m)) ⟨fresh_same hL, upd_same, .nil⟩ (fun m H' ys p => ⟨p.2.1, SqT.of (p.1 _ _ q2)⟩) (fun m x H' ys e p => ?_) (fun H' ys p => ?_)
        · obtain ⟨Sm, hd', pr⟩ := p
          have hm' : m < as.length := (List.getElem?_eq_some_iff.mp e).1
          obtain ⟨r', er, h1⟩ := paired_at pa m x e
          obtain ⟨o1, o2⟩ := args_ok rok (List.mem_of_getElem? er)
          refine s_name ⟨by repeat' (first | exact trivial | refine ⟨rfl, ?_⟩), i_yes (iteT ?_)⟩
          repeat walk_at "vc"
          refine ⟨x, r', nd, kvs, ws, π, rfl, h1.mono (Same.tups (S02.trans Sm)), by omega, o1, Sm _ _ hn2, nm, fun u H3 S3 hu3 => ?_⟩
          have yl := paired_len pr
          rw [List.length_take] at yl
          have eD : KeepT H3 (upd H3 L (HO.lst (ys ++ [u]))) := fun b xs e => by rw [upd_ne]; exact e; intro z; subst z; rw [S3 _ _ hd'] at e; cases e
          refine NextC.mk (S3 _ _ hd') hm' (by omega) ⟨same_upd (Sm.trans S3) hL, upd_same, ?_⟩
          rw [List.take_succ, er]
          exact paired_snoc (paired_mono (fun v s h => (h.mono (Same.tups S3)).mono eD) pr) (hu3.mono eD)
        · obtain ⟨Sm, hd', pr⟩ := p
          rw [pl, List.take_length] at pr
          have yl := paired_len pr
          refine i_nil ⟨L, ys, rfl, .inl ⟨SqL.of hd', fun p4 hp4 => ?_⟩⟩
          generalize hE : upd H' p4 _ = H4
          obtain ⟨S4, q4⟩ := upd_pair hp4 hE
          clear hE
          refine ⟨p1, p4, _, _, rfl, rfl, SqT.of ((S2.trans (Sm.trans S4)) _ _ q1), SqT.of q4, by simp, by show 1 + _ ≤ _; omega, (fun z => by rw [z] at yl; simp at yl; omega), fun _ p5 hp5 => ?_⟩
          generalize hE : upd H4 p5 _ = H5
          obtain ⟨S5, q5⟩ := upd_pair hp5 hE
          clear hE
          exact q (.ref p5) H5 (S02.trans (Sm.trans (S4.trans S5))) (rat_ren nw q5 (paired_mono (fun v s h => h.mono (Same.tups (S4.trans S5))) pr))
end
set_option Elab.async false
set_option linter.all false
set_option maxRecDepth 100000
set_option maxHeartbeats 4000000

noncomputable def unS : V → Str
  | .str z => z
  | _ => ""
theorem perm_strs {ys : List V} {xs : List Str} (h : ys.Perm (xs.map V.str)) : ∃ ms : List Str, ys = ms.map V.str ∧ ms.Perm xs := by
  refine ⟨ys.map unS, ?_, ?_⟩
  · rw [List.map_map]
    have : ys.map (V.str ∘ unS) = ys.map id := List.map_congr_left fun y hy => by
      obtain ⟨z, _, rfl⟩ := List.mem_map.mp (h.mem_iff.mp hy)
      rfl
    rw [this, List.map_id]
  · have q := h.map unS
    rw [List.map_map] at q
    have : xs.map (unS ∘ V.str) = xs.map id := List.map_congr_left fun _ _ => rfl
    rw [this, List.map_id] at q
    exact q
theorem perm_paired {α β : Type} {F : α → β → Prop} {ys xs : List α} (h : ys.Perm xs) : ∀ {as : List β}, Paired F xs as → ∃ bs, Paired F ys bs ∧ bs.Perm as := by
  induction h with
  | nil => intro as p; cases p; exact ⟨[], .nil, .nil⟩
  | cons x _ ih =>
    intro as p
    cases p with
    | cons h1 t =>
      obtain ⟨bs, pb, q⟩ := ih t
      exact ⟨_ :: bs, .cons h1 pb, q.cons _⟩
  | swap x y l =>
    intro as p
    cases p with
    | cons h1 t =>
      cases t with
      | cons h2 t => exact ⟨_ :: _ :: _, .cons h2 (.cons h1 t), .swap _ _ _⟩
  | trans _ _ i1 i2 =>
    intro as p
    obtain ⟨bs, pb, q⟩ := i2 p
    obtain ⟨cs, pc, r⟩ := i1 pb
    exact ⟨cs, pc, r.trans q⟩
noncomputable def someN : List Str := ["u", "v", "w", "aa", "bb", "cc", "dd", "ee", "ff", "gg", "hh"]
theorem some_low : ∀ z ∈ someN, Low z := by
  have h : ∀ z ∈ someN, 1 ≤ z.length ∧ z.length ≤ 8 ∧ ∀ c ∈ z.cps.toList, 97 ≤ c ∧ c ≤ 122 := by decide +kernel
  exact fun z hz => ⟨(h z hz).1, (h z hz).2.1, (h z hz).2.2⟩
theorem some_nd : someN.Nodup := by decide +kernel
noncomputable def piN (ws ms : List Str) (n : Str) : Str := ms.getD (ws.idxOf n) ""
theorem piN_at {ws ms : List Str} {n : Str} (hn : n ∈ ws) (hl : ws.length ≤ ms.length) : ∃ h : ws.idxOf n < ms.length, piN ws ms n = ms[ws.idxOf n] := by
  have h1 : ws.idxOf n < ws.length := List.idxOf_lt_length_iff.mpr hn
  refine ⟨by omega, ?_⟩
  unfold piN
  rw [List.getD_eq_getElem?_getD, List.getElem?_eq_getElem (by omega)]
  rfl
theorem piN_inj {ws ms : List Str} (nd : ms.Nodup) (hl : ws.length ≤ ms.length) : ∀ a ∈ ws, ∀ b ∈ ws, piN ws ms a = piN ws ms b → a = b := fun a ha b hb e => by
  obtain ⟨h1, e1⟩ := piN_at ha hl
  obtain ⟨h2, e2⟩ := piN_at hb hl
  rw [e1, e2] at e
  have e3 := (List.getElem_inj nd).mp e
  have i1 : ws.idxOf a < ws.length := List.idxOf_lt_length_iff.mpr ha
  have i2 : ws.idxOf b < ws.length := List.idxOf_lt_length_iff.mpr hb
  have g1 : ws[ws.idxOf a] = a := List.getElem_idxOf i1
  have g2 : ws[ws.idxOf b] = b := List.getElem_idxOf i2
  rw [← g1, ← g2]
  congr 1
theorem piN_map {ws ms : List Str} (nd : ws.Nodup) (hl : ws.length ≤ ms.length) : NMap (putAll [] (zippedL ws (ms.map V.str))) ws (piN ws ms) := fun n hn => by
  obtain ⟨h1, e1⟩ := piN_at hn hl
  have i1 : ws.idxOf n < ws.length := List.idxOf_lt_length_iff.mpr hn
  refine valV_putAll_in ?_ ?_
  · have e : (zippedL ws (ms.map V.str)).map (·.1) = ws.map Sum.inr := by
      unfold zippedL
      rw [List.map_map]
      have : ((fun x : Key × V => x.1) ∘ fun p : Str × V => ((Sum.inr p.1 : Key), p.2)) = (Sum.inr : Str → Key) ∘ Prod.fst := rfl
      rw [this, ← List.map_map, List.map_fst_zip (by rw [List.length_map]; exact hl)]
    rw [e]
    exact nodup_inr nd
  · unfold zippedL
    refine List.mem_map.mpr ⟨(n, .str (piN ws ms n)), ?_, rfl⟩
    refine List.mem_iff_getElem?.mpr ⟨ws.idxOf n, ?_⟩
    rw [List.getElem?_zip_eq_some]
    refine ⟨by rw [List.getElem?_eq_getElem i1, List.getElem_idxOf i1], ?_⟩
    rw [List.getElem?_map, List.getElem?_eq_getElem h1, e1]
    rfl
noncomputable def spOther : Sp := fun vs H Q _ => ∃ (D : Dk) (a li lg : Addr) (ins : List Str) (gvs : List V) (gs : List (Str × Rl)), vs = [.ref D.d, .ref a] ∧ D.At H ∧ NAt H a li lg ins gvs gs ∧ NetQ ins gs ∧
  ∀ l a' li' lg' ins' gvs' gs' nd kvs π H', Kp D H H' → H' l = some (.lst [.ref a', .ref nd]) → NAt H' a' li' lg' ins' gvs' gs' → Oth π ins gs ins' gs' → H' nd = some (.dK kvs) → NMap kvs (wiresN ins gs) π → Q (.ref l) H'
theorem Kp.dict {D : Dk} {H H' : Hp} {d : Addr} {kvs : List (Key × V)} (DA : D.At H) (k : Kp D H H') (h : H d = some (.dK kvs)) : H' d = some (.dK kvs) := k.old d _ h (notOwn DA h fun xs e => nomatch e)
theorem i_dzl {K : PySem.W.Frag} {ta : TA} {σ : St} {H : Hp} {Q : VK} (q : ta σ H fun vs H1 => ∃ l m ns us, vs = [.ref l, .ref m] ∧ SqL K H1 l (ns.map V.str) ∧ SqL K H1 m us ∧ ns.length ≤ us.length ∧ ns.length < 1000 ∧ ∀ d, H1 d = none → Q (.ref d) (upd H1 d (.dK (putAll [] (zippedL ns us))))) : tDzipL K ta σ H Q := q
section
variable {P : Program} {w : World} {K : PySem.W.Frag} {mg : Str → Option Value} {base : Heap} {TT : Addr}
theorem sc_law_other : FnScope ["deck", "net", "some", "names", "inputs", "gates"] ["deck", "net"] (defScope (top 42)) := ⟨rfl, rfl, rfl, by decide +kernel, rfl, by decide +kernel, by decide +kernel⟩
theorem ok_other {f : Addr} {fd : FuncData} (Fu : Fun K "_law_other" "_law_other" (top 42) f fd) (T : Txt K mg TT) (f_wires_of : Fn P w K mg base "wires_of" ["net"] 2 spWires) (f_law_shuffled : Fn P w K mg base "_law_shuffled" ["deck", "row"] 2 spShuf) (f_law_renamed : Fn P w K mg base "_law_renamed" ["rule", "names"] 10 (spRen 10)) : FnOk P w K mg base CX0 11 f fd ["deck", "net"] spOther := by
  have S := sc_law_other
  refine Fu.ok S (fun vs H Q E h => ?_) (fun cdv A outer s H vs Q E hr h => ?_)
  · obtain ⟨D, a, li, lg, ins, gvs, gs, rfl, _⟩ := h
    rfl
  · obtain ⟨D, a, li, lg, ins, gvs, gs, rfl, DA, NA, nq, k⟩ := h
    obtain ⟨ok, i4, g1, g7, nd⟩ := id nq
    have hu := hu_of hr
    have big : 1000 < sizeLine := by decide
    have wl : (wiresN ins gs).length ≤ 11 := by unfold wiresN; rw [List.length_append, List.length_map]; omega
    refine' ⟨?_, ?bb, ?_⟩
    case bb =>
      refine' pss_cons ?s1 ?r1
      case s1 =>
        refine' ps_set (i := 2) ?n ?r ?l ?e ?s ?f
        case n => exact S.nd
        case r => rfl
        case l => first | exact Or.inl rfl | exact Or.inr rfl
        case s => rfl
        case f => first | exact Or.inl rfl | exact Or.inr rfl
        case e =>
          refine' (pe_lst ?L2)
          case L2 => (repeat' (with_reducible refine' pa_cons pe_str ?_ se_con)); (all_goals (try exact pa_nil))
      case r1 =>
        with_reducible refine' pss_cons ?s4 ?r4
        case s4 =>
          refine' ps_set (i := 3) ?n ?r ?l ?e ?s ?f
          case n => exact S.nd
          case r => rfl
          case l => first | exact Or.inl rfl | exact Or.inr rfl
          case s => rfl
          case f => first | exact Or.inl rfl | exact Or.inr rfl
          case e => exact (pe_dzipL rfl (by rfl) T.n_dict (by rfl) T.n_zip (pa_cons (pe_fn f_wires_of (hr.mono (by first | decide | omega)) (by rfl) (pa_cons (pv 1) pa_nil)) (pa_cons (pe_fn f_law_shuffled (hr.mono (by first | decide | omega)) (by rfl) (pa_cons (pv 0) (pa_cons (pv 2) pa_nil))) pa_nil)))
        case r4 =>
          with_reducible refine' pss_cons ?s6 ?r6
          case s6 =>
            refine' ps_set (i := 4) ?n ?r ?l ?e ?s ?f
            case n => exact S.nd
            case r => rfl
            case l => first | exact Or.inl rfl | exact Or.inr rfl
            case s => rfl
            case f => first | exact Or.inl rfl | exact Or.inr rfl
            case e => exact (pe_fn f_law_shuffled (hr.mono (by first | decide | omega)) (by rfl) (pa_cons (pv 0) (pa_cons (pe_lc (tgs := ["name"]) (cap := [("names", 3)]) rfl ⟨rfl, rfl, rfl, rfl, rfl, rfl⟩ (pi_list (pe_ix ix_tup (pv 1) pe_int (fun _ _ => rfl))) (fun _ _ _ _ => (pg_name (i := 0) (show List.Nodup [("name" : Str), ("names" : Str)] by decide +kernel) rfl (by first | exact Or.inl rfl | exact Or.inr rfl))) (fun _ _ _ _ => pifs_nil) (fun _ _ _ _ => (pe_dget hu (pv 1) (pv 0) (fun _ _ => rfl)))) pa_nil)))
          case r6 =>
            with_reducible refine' pss_cons ?s8 ?r8
            case s8 =>
              refine' ps_set (i := 5) ?n ?r ?l ?e ?s ?f
              case n => exact S.nd
              case r => rfl
              case l => first | exact Or.inl rfl | exact Or.inr rfl
              case s => rfl
              case f => first | exact Or.inl rfl | exact Or.inr rfl
              case e => exact (pe_fn f_law_shuffled (hr.mono (by first | decide | omega)) (by rfl) (pa_cons (pv 0) (pa_cons (pe_lc (tgs := ["name", "rule"]) (cap := [("names", 3)]) rfl ⟨rfl, rfl, rfl, rfl, rfl, rfl⟩ (pi_list (pe_ix ix_tup (pv 1) pe_int (fun _ _ => rfl))) (fun _ _ _ _ => (pg_tupK (K := K) (n := 2) rfl rfl (pgs_cons (pg_name (i := 0) (show List.Nodup [("name" : Str), ("rule" : Str), ("names" : Str)] by decide +kernel) rfl (by first | exact Or.inl rfl | exact Or.inr rfl)) (pgs_cons (pg_name (i := 1) (show List.Nodup [("name" : Str), ("rule" : Str), ("names" : Str)] by decide +kernel) rfl (by first | exact Or.inl rfl | exact Or.inr rfl)) pgs_nil)))) (fun _ _ _ _ => pifs_nil) (fun _ _ _ _ => (pe_tup (pa_cons (pe_dget hu (pv 2) (pv 0) (fun _ _ => rfl)) (pa_cons (pe_fn f_law_renamed (hr.mono (by first | decide | omega)) (by rfl) (pa_cons (pv 1) (pa_cons (pv 2) pa_nil))) pa_nil))))) pa_nil)))
            case r8 =>
              with_reducible refine' pss_one ?s10
              case s10 =>
                exact (ps_ret (pe_lst (pa_cons (pe_tup (pa_cons (pv 4) (pa_cons (pv 5) pa_nil))) (pa_cons (pv 3) pa_nil))))
    try dsimp only [cxOf, Cx.nox, Cx.wish]
    rw [show L2.start ["deck", "net", "some", "names", "inputs", "gates"] [V.ref D.d, V.ref a] = [some (.ref D.d), some (.ref a), none, none, none, none] from rfl]
    repeat walk_at "vc"
    refine ⟨by show 11 ≤ _; omega, fun so hso => ?_⟩
    generalize hE : upd H so _ = H1
    obtain ⟨S1, q1⟩ := upd_pair hso hE
    clear hE
    have q1' : H1 so = some (.lst (someN.map V.str)) := q1
    clear q1
    have kp1 : Kp D H H1 := Kp.of DA S1
    have NA1 := NA.same S1
    repeat walk_at "vc"
    refine i_dzl ?_
    repeat walk_at "vc"
    refine ⟨a, li, lg, ins, gvs, gs, rfl, NA1, ok, fun lw H2 S2 nlw hw => ?_⟩
    have kp2 := kp1.trans (Kp.of kp1.dk S2)
    repeat walk_at "vc"
    refine ⟨D, so, _, rfl, kp2.dk, S2 _ _ q1', by decide, noint_strs _, fun ps ys H3 nps hps pm k3 => ?_⟩
    obtain ⟨ms, rfl, pms⟩ := perm_strs pm
    have ml : ms.length = 11 := pms.length_eq
    have mnd : ms.Nodup := pms.nodup_iff.mpr some_nd
    have kp3 := kp2.trans k3
    have hw3 := k3.strs kp2.dk hw
    have NA3 := (NA1.same S2).kp kp2.dk k3
    refine i_nil ⟨lw, ps, wiresN ins gs, _, rfl, SqL.of hw3, SqL.of hps, by rw [List.length_map]; omega, by omega, fun d hd => ?_⟩
    generalize hE : upd H3 d _ = H4
    obtain ⟨S4, q4⟩ := upd_pair hd hE
    clear hE
    have nm := piN_map nd (show (wiresN ins gs).length ≤ ms.length by omega)
    have inj := piN_inj (ws := wiresN ins gs) mnd (by omega)
    have low : ∀ n ∈ wiresN ins gs, Low (piN (wiresN ins gs) ms n) := fun n hn => by
      obtain ⟨h1, e1⟩ := piN_at hn (show (wiresN ins gs).length ≤ ms.length by omega)
      rw [e1]
      exact some_low _ (pms.mem_iff.mp (List.getElem_mem h1))
    generalize putAll [] (zippedL (wiresN ins gs) (ms.map V.str)) = kvs at q4 nm
    generalize piN (wiresN ins gs) ms = π at nm inj low
    have kp4 := kp3.trans (Kp.of kp3.dk S4)
    have NA4 := NA3.same S4
    have ha4 := NA4.ha
    have hi4 := NA4.hi
    have hg4 := NA4.hg
    repeat walk_at "vc"
    refine i_comp ?_
    repeat walk_at "vc"
    refine ⟨li, rfl, ⟨_, SqL.of hi4⟩, fun L hL => ?_⟩
    refine comp_list (xs := ins.map V.str) (fun m H' ys => Same H4 H' ∧ H' L = some (.lst ys) ∧ ys = ((ins.map π).take m).map V.str) ⟨fresh_same hL, upd_same, by simp⟩ (fun m H' ys p => ⟨p.2.1, SqL.of (p.1 _ _ hi4)⟩) (fun m x H' ys e p => ?_) (fun H5 ys p => ?_)
    · obtain ⟨Sm, hd', rfl⟩ := p
      have hm' : m < (ins.map V.str).length := (List.getElem?_eq_some_iff.mp e).1
      rw [List.getElem?_map] at e
      obtain ⟨z, hz, rfl⟩ : ∃ z, ins[m]? = some z ∧ V.str z = x := by
        cases h : ins[m]? with
        | none => rw [h] at e; cases e
        | some z => rw [h] at e; exact ⟨z, rfl, Option.some.inj e⟩
      refine s_name ⟨by repeat' (first | exact trivial | refine ⟨rfl, ?_⟩), i_yes (iteT ?_)⟩
      repeat walk_at "vc"
      have vn := nm z (by unfold wiresN; exact List.mem_append_left _ (List.mem_of_getElem? hz))
      refine ⟨d, _, rfl, by rw [← vn]; exact DGet.k (k := Sum.inr z) (Sm _ _ q4), ?_⟩
      rw [List.length_map] at hm'
      refine NextC.mk hd' (by rw [List.length_map]; exact hm') (by rw [List.length_map, List.length_take]; omega) ⟨same_upd Sm hL, upd_same, ?_⟩
      rw [List.take_succ, List.getElem?_map, hz, List.map_append]
      rfl
    obtain ⟨S5, hL5, rfl⟩ := p
    rw [List.take_of_length_le (by simp)] at hL5
    have kp5 := kp4.trans (Kp.of kp4.dk S5)
    repeat walk_at "vc"
    refine ⟨D, L, _, rfl, kp5.dk, hL5, by rw [List.length_map, List.length_map]; omega, noint_strs _, fun li' ys' H6 nli' hli' pmi k6 => ?_⟩
    obtain ⟨ins', rfl, pi⟩ := perm_strs pmi
    have kp6 := kp5.trans k6
    have q6 := k6.dict kp5.dk (S5 _ _ q4)
    have NA6 := (NA4.same S5).kp kp5.dk k6
    have ha6 := NA6.ha
    have hg6 := NA6.hg
    have gl := paired_len NA6.gates
    repeat walk_at "vc"
    refine i_comp ?_
    repeat walk_at "vc"
    refine ⟨lg, rfl, ⟨_, SqL.of hg6⟩, fun M hM => ?_⟩
    refine comp_list (xs := gvs) (fun m H' ys => Same H6 H' ∧ H' M = some (.lst ys) ∧ Paired (GAt H') ys ((gs.map (rg π)).take m)) ⟨fresh_same hM, upd_same, .nil⟩ (fun m H' ys p => ⟨p.2.1, SqL.of (p.1 _ _ hg6)⟩) (fun m x H' ys e p => ?_) (fun H7 zs p => ?_)
    · obtain ⟨Sm, hd', pr⟩ := p
      have hm' : m < gvs.length := (List.getElem?_eq_some_iff.mp e).1
      obtain ⟨g, e', b, rv, rfl, hb, hrr⟩ := paired_at NA6.gates m x e
      have hgm := List.mem_of_getElem? e'
      obtain ⟨r1, r2⟩ := ok.rules g hgm
      refine ⟨b, _, rfl, SqT.of (Sm _ _ hb), rfl, ?_⟩
      refine ⟨_, _, rfl, s_name ⟨_, _, rfl, s_name ⟨rfl, ⟨by repeat' (first | exact trivial | refine ⟨rfl, ?_⟩), i_yes (iteT ?_)⟩⟩⟩⟩
      repeat walk_at "vc"
      have vn := nm g.1 (by unfold wiresN; exact List.mem_append_right _ (List.mem_map_of_mem hgm))
      refine ⟨d, _, rfl, by rw [← vn]; exact DGet.k (k := Sum.inr g.1) (Sm _ _ q6), ?_⟩
      repeat walk_at "vc"
      refine ⟨rv, g.2, d, kvs, wiresN ins gs, π, rfl, hrr.mono (Same.tups Sm), r2, r1, Sm _ _ q6, nm, fun u H8 S8 hu8 => ?_⟩
      repeat walk_at "vc"
      refine ⟨by show 2 ≤ _; omega, fun t ht => ?_⟩
      generalize hE : upd H8 t _ = H9
      obtain ⟨S9, q9⟩ := upd_pair ht hE
      clear hE
      have hd9 := (S8.trans S9) _ _ hd'
      have yl := paired_len pr
      rw [List.length_take] at yl
      have eD : KeepT H9 (upd H9 M (HO.lst (ys ++ [V.ref t]))) := fun b xs e => by rw [upd_ne]; exact e; intro z; subst z; rw [hd9] at e; cases e
      refine NextC.mk hd9 hm' (by omega) ⟨same_upd (Sm.trans (S8.trans S9)) hM, upd_same, ?_⟩
      rw [List.take_succ, List.getElem?_map, e']
      exact paired_snoc (gates_mono eD (gates_mono (Same.tups (S8.trans S9)) pr)) (GAt.mono eD ⟨t, u, rfl, q9, hu8.mono (Same.tups S9)⟩)
    obtain ⟨S7, hM7, prz⟩ := p
    rw [List.take_of_length_le (by rw [List.length_map]; omega)] at prz
    have kp7 := kp6.trans (Kp.of kp6.dk S7)
    have zl := paired_len prz
    rw [List.length_map] at zl
    repeat walk_at "vc"
    refine ⟨D, M, _, rfl, kp7.dk, hM7, by omega, noint_refs (gates_refs prz), fun lg' gvs' H8 nlg' hlg' pmg k8 => ?_⟩
    have kp8 := kp7.trans k8
    obtain ⟨gs', pg', pgs⟩ := perm_paired pmg (gates_mono (k8.tups kp7.dk) prz)
    have hli8 := k8.strs kp7.dk (S7 _ _ hli')
    have q8 := k8.dict kp7.dk (S7 _ _ q6)
    repeat walk_at "vc"
    refine ⟨by show 2 ≤ _; omega, fun a' ha' => ?_⟩
    generalize hE : upd H8 a' _ = H9
    obtain ⟨S9, q9⟩ := upd_pair ha' hE
    clear hE
    repeat walk_at "vc"
    refine ⟨by show 2 ≤ _; omega, fun l hl => ?_⟩
    generalize hE : upd H9 l _ = H10
    obtain ⟨S10, q10⟩ := upd_pair hl hE
    clear hE
    have SS := S9.trans S10
    exact k l a' li' lg' ins' gvs' gs' d kvs π H10 (kp8.trans (Kp.of kp8.dk SS)) q10 ⟨S10 _ _ q9, SS _ _ hli8, SS _ _ hlg', gates_mono (Same.tups SS) pg'⟩ ⟨pi, pgs, inj, low⟩ (SS _ _ q8) nm
end
set_option Elab.async false
set_option linter.all false
set_option maxRecDepth 100000
set_option maxHeartbeats 4000000

structure Two7 (H : Hp) (a li lg : Addr) (ins : List Str) (gvs : List V) (gs : List (Str × Rl)) (a' li' lg' : Addr) (ins' : List Str) (gvs' : List V) (gs' : List (Str × Rl)) (nd : Addr) (kvs : List (Key × V)) (π : Str → Str) : Prop where
  n1 : NAt H a li lg ins gvs gs
  n2 : NAt H a' li' lg' ins' gvs' gs'
  q : NetQ ins gs
  o : Oth π ins gs ins' gs'
  d : H nd = some (.dK kvs)
  nm : NMap kvs (wiresN ins gs) π
section
variable {H H' : Hp} {a li lg a' li' lg' nd : Addr} {ins ins' : List Str} {gvs gvs' : List V} {gs gs' : List (Str × Rl)} {kvs : List (Key × V)} {π : Str → Str}
theorem Two7.same (S : Same H H') (t : Two7 H a li lg ins gvs gs a' li' lg' ins' gvs' gs' nd kvs π) : Two7 H' a li lg ins gvs gs a' li' lg' ins' gvs' gs' nd kvs π := ⟨t.n1.same S, t.n2.same S, t.q, t.o, S _ _ t.d, t.nm⟩
theorem Two7.kp {D : Dk} (DA : D.At H) (k : Kp D H H') (t : Two7 H a li lg ins gvs gs a' li' lg' ins' gvs' gs' nd kvs π) : Two7 H' a li lg ins gvs gs a' li' lg' ins' gvs' gs' nd kvs π := ⟨t.n1.kp DA k, t.n2.kp DA k, t.q, t.o, k.dict DA t.d, t.nm⟩
end
noncomputable def spWorthOf : Sp := fun vs H Q _ => ∃ a li lg ins gvs gs z v r, vs = [.ref a, v, .str z] ∧ NAt H a li lg ins gvs gs ∧ NetQ ins gs ∧ StOk (wiresN ins gs).length z ∧ RAt H v r ∧ r.dep ≤ 10 ∧ r.ok (wiresN ins gs) ∧ ∀ H', Same H H' → Q (sg (r.val (sgn (wiresN ins gs) z))) H'
noncomputable def spMv : Sp := fun vs H Q _ => ∃ a li lg ins gvs gs a' li' lg' ins' gvs' gs' nd kvs π F, vs = [.ref a, .ref a', .ref nd, .str (rowT F (wiresN ins gs))] ∧ Two7 H a li lg ins gvs gs a' li' lg' ins' gvs' gs' nd kvs π ∧ ∀ H', Same H H' → Q (.str (rowT (gF π (wiresN ins gs) F) (wiresN ins' gs'))) H'
theorem sgn_at {ws : List Str} (nd : ws.Nodup) {z : Str} (st : StOk ws.length z) {i : Nat} {n : Str} (h : ws[i]? = some n) : signV z i = sg (sgn ws z n) := by
  have hi : i < ws.length := (List.getElem?_eq_some_iff.mp h).1
  have en : ws[i] = n := (List.getElem?_eq_some_iff.mp h).2
  rw [sign_sg st hi]
  unfold sgn
  rw [show ws.idxOf n = i by rw [← en]; exact List.Nodup.idxOf_getElem nd _ hi]
theorem i_dnew {σ : St} {H : Hp} {Q : VK} (q : ∀ p, H p = none → Q (.ref p) (upd H p (.dK []))) : tDNewK σ H Q := q
theorem i_dput {td ty tv : TE} {D : Ends} {σ : St} {H : Hp} (q : tv σ H fun v H1 => td σ H1 fun x H2 => ty σ H2 fun y H3 => ∃ a H4, x = .ref a ∧ DPut H3 a y v H4 ∧ D.nx σ H4) : sDPut td ty tv D σ H := q
theorem i_zip {K : PySem.W.Frag} {ta : TA} {σ : St} {H : Hp} {R : It → Hp → Prop} (q : ta σ H fun vs H1 => ∃ a z, vs = [.ref a, .str z] ∧ (∃ xs, SqL K H1 a xs) ∧ R (Itz K a z) H1) : iZip K ta σ H R := q
section
variable {P : Program} {w : World} {K : PySem.W.Frag} {mg : Str → Option Value} {base : Heap} {TT : Addr}
theorem sc_worth_of : FnScope ["net", "rule", "standing"] ["net", "rule", "standing"] (defScope (top 25)) := ⟨rfl, rfl, rfl, by decide +kernel, rfl, by decide +kernel, by decide +kernel⟩
theorem ok_worthof {f : Addr} {fd : FuncData} (Fu : Fun K "worth_of" "worth_of" (top 25) f fd) (T : Txt K mg TT) (f_check_standing : Fn P w K mg base "check_standing" ["net", "thing"] 3 (spIsSt .non)) (f_signs_in : Fn P w K mg base "signs_in" ["net", "standing"] 3 spSg) (f_rule_worth : Fn P w K mg base "rule_worth" ["rule", "signs"] 11 (spWorth 10)) :
    FnOk P w K mg base CX0 12 f fd ["net", "rule", "standing"] spWorthOf := by
  have S := sc_worth_of
  refine Fu.ok S (fun vs H Q E h => ?_) (fun cdv A outer s H vs Q E hr h => ?_)
  · obtain ⟨a, li, lg, ins, gvs, gs, z, v, r, rfl, _⟩ := h
    rfl
  · obtain ⟨a, li, lg, ins, gvs, gs, z, v, r, rfl, NA, nq, st, ra, dp, rok, k⟩ := h
    refine ⟨_, (pss_cons (ps_expr (pe_fn f_check_standing (hr.mono (by first | decide | omega)) (by rfl) (pa_cons (pv 0) (pa_cons (pv 2) pa_nil))))
      (pss_one (ps_ret (pe_fn f_rule_worth (hr.mono (by first | decide | omega)) (by rfl) (pa_cons (pv 1) (pa_cons (pe_fn f_signs_in (hr.mono (by first | decide | omega)) (by rfl) (pa_cons (pv 0) (pa_cons (pv 2) pa_nil))) pa_nil)))))), ?_⟩
    try dsimp only [cxOf, Cx.nox, Cx.wish]
    rw [show L2.start ["net", "rule", "standing"] [V.ref a, v, V.str z] = [some (.ref a), some v, some (.str z)] from rfl]
    repeat walk_at "vc"
    refine ⟨a, li, lg, ins, gvs, gs, z, rfl, NA, nq.1, st, fun H1 S1 => ?_⟩
    repeat walk_at "vc"
    refine ⟨a, li, lg, ins, gvs, gs, z, rfl, NA.same S1, nq.1, st, fun d H2 S2 nd hd => ?_⟩
    repeat walk_at "vc"
    refine ⟨v, d, _, r, wiresN ins gs, sgn (wiresN ins gs) z, rfl, ra.mono (Same.tups (S1.trans S2)), dp, rok, hd, dfn_zip nq.2.2.2.2 st, ?_⟩
    exact k H2 (S1.trans S2)
theorem sc_law_moved : FnScope ["net", "other", "names", "standing", "signs", "name", "sign"] ["net", "other", "names", "standing"] (defScope (top 43)) := ⟨rfl, rfl, rfl, by decide +kernel, rfl, by decide +kernel, by decide +kernel⟩
theorem ok_mv {f : Addr} {fd : FuncData} (Fu : Fun K "_law_moved" "_law_moved" (top 43) f fd) (T : Txt K mg TT) (f_wires_of : Fn P w K mg base "wires_of" ["net"] 2 spWires) : FnOk P w K mg base CX0 3 f fd ["net", "other", "names", "standing"] spMv := by
  have S := sc_law_moved
  refine Fu.ok S (fun vs H Q E h => ?_) (fun cdv A outer s H vs Q E hr h => ?_)
  · obtain ⟨a, li, lg, ins, gvs, gs, a', li', lg', ins', gvs', gs', nd, kvs, π, F, rfl, _⟩ := h
    rfl
  · obtain ⟨a, li, lg, ins, gvs, gs, a', li', lg', ins', gvs', gs', nd, kvs, π, F, rfl, tw, k⟩ := h
    obtain ⟨ok, i4, g1, g7, ndp⟩ := id tw.q
    have nq' := tw.o.net tw.q
    have hu := hu_of hr
    have big : 1000 < sizeLine := by decide
    have wl : (wiresN ins gs).length ≤ 11 := by unfold wiresN; rw [List.length_append, List.length_map]; omega
    generalize hz : rowT F (wiresN ins gs) = z
    have st : StOk (wiresN ins gs).length z := by rw [← hz]; exact row_ok _ _
    have sF : ∀ n ∈ wiresN ins gs, sgn (wiresN ins gs) z n = F n := fun n hn => by rw [← hz]; exact sgn_row F hn
    refine' ⟨?_, (pss_cons ?h0 (pss_cons (ps_for PassesOwn.never rfl ?h1 ?h2 (pss_one ?h3)) (pss_one ?h4))), ?_⟩
    case h0 =>
      refine' ps_set (i := 4) ?n ?r ?l ?e ?s ?f
      case n => exact S.nd
      case r => rfl
      case l => first | exact Or.inl rfl | exact Or.inr rfl
      case s => rfl
      case f => first | exact Or.inl rfl | exact Or.inr rfl
      case e => exact pe_dnewK
    case h1 => exact (pi_zip (by rfl) T.n_zip (pa_cons (pe_fn f_wires_of (hr.mono (by first | decide | omega)) (by rfl) (pa_cons (pv 0) pa_nil)) (pa_cons (pv 3) pa_nil)))
    case h2 => exact (pg_tup rfl (pgs_cons (pg_name (i := 5) S.nd rfl (by first | exact Or.inl rfl | exact Or.inr rfl)) (pgs_cons (pg_name (i := 6) S.nd rfl (by first | exact Or.inl rfl | exact Or.inr rfl)) pgs_nil)))
    case h3 => exact (ps_dput hu (pv 4) (pe_dget hu (pv 2) (pv 5) (fun _ _ => rfl)) (pv 6) rfl)
    case h4 => exact (ps_ret (pe_bm PySem.F.plainAttrs_str PySem.F.slot_str_join PySem.F.type_str_join mt_join pe_str (pa_cons (pe_lc (tgs := ["name"]) (cap := [("signs", 4)]) rfl ⟨rfl, rfl, rfl, rfl, rfl, rfl⟩ (pi_list (pe_fn f_wires_of (hr.mono (by first | decide | omega)) (by rfl) (pa_cons (pv 1) pa_nil))) (fun _ _ _ _ => (pg_name (i := 0) (show List.Nodup [("name" : Str), ("signs" : Str)] by decide +kernel) rfl (by first | exact Or.inl rfl | exact Or.inr rfl))) (fun _ _ _ _ => pifs_nil) (fun _ _ _ _ => (pe_dget hu (pv 1) (pv 0) (fun _ _ => rfl)))) pa_nil)))
    try dsimp only [cxOf, Cx.nox, Cx.wish]
    rw [show L2.start ["net", "other", "names", "standing", "signs", "name", "sign"] [V.ref a, V.ref a', V.ref nd, V.str z] = [some (.ref a), some (.ref a'), some (.ref nd), some (.str z), none, none, none] from rfl]
    repeat walk_at "vc"
    refine i_dnew fun d hd => ?_
    generalize hE : upd H d _ = H1
    obtain ⟨S1, q1⟩ := upd_pair hd hE
    clear hE
    repeat walk_at "vc"
    refine i_zip ?_
    repeat walk_at "vc"
    refine ⟨a, li, lg, ins, gvs, gs, rfl, tw.n1.same S1, ok, fun lw H2 S2 nlw hw => ?_⟩
    have ndl : lw ≠ d := fun z => by rw [z, q1] at nlw; cases nlw
    repeat walk_at "vc"
    refine ⟨lw, z, rfl, ⟨_, SqL.of hw⟩, ?_⟩
    refine for_zip (xs := (wiresN ins gs).map V.str) (by rw [List.length_map, st.len]; exact Nat.le_refl _) (fun i σ H' => (∃ x5 x6, σ = [some (.ref a), some (.ref a'), some (.ref nd), some (.str z), some (.ref d), x5, x6]) ∧ Same H H' ∧ H' lw = some (.lst ((wiresN ins gs).map V.str)) ∧ ∃ sv, H' d = some (.dK sv) ∧ sv.length ≤ i ∧ ∀ n ∈ (wiresN ins gs).take i, valV sv (Sum.inr (π n) : Key) = some (sg (F n)))
      ⟨⟨_, _, rfl⟩, S1.trans S2, hw, [], S2 _ _ q1, Nat.le_refl _, (fun n hn => by simp at hn)⟩ (fun i σ H' _ pv => SqL.of pv.2.2.1) (fun i x σ H' t hx pv ht => ?_) (fun σ H' pv => ?_)
    · obtain ⟨⟨x5, x6, rfl⟩, Sm, hlw, sv, hsv, svl, ag⟩ := pv
      rw [List.getElem?_map] at hx
      obtain ⟨n, hn, rfl⟩ : ∃ n, (wiresN ins gs)[i]? = some n ∧ V.str n = x := by
        cases h : (wiresN ins gs)[i]? with
        | none => rw [h] at hx; cases hx
        | some n => rw [h] at hx; exact ⟨n, rfl, Option.some.inj hx⟩
      have hi : i < (wiresN ins gs).length := (List.getElem?_eq_some_iff.mp hn).1
      have hnm := List.mem_of_getElem? hn
      rw [sgn_at ndp st hn, sF n hnm]
      generalize hE : upd H' t _ = H4
      obtain ⟨S4, h4⟩ := upd_pair ht hE
      clear hE
      have S04 := Sm.trans S4
      have hsv4 := S4 _ _ hsv
      refine ⟨t, _, rfl, SqT.of h4, rfl, ?_⟩
      refine ⟨_, _, rfl, s_name ⟨_, _, rfl, s_name ⟨rfl, ?_⟩⟩⟩
      refine i_dput ?_
      repeat walk_at "vc"
      have vn := tw.nm n hnm
      refine ⟨nd, _, rfl, by rw [← vn]; exact DGet.k (k := Sum.inr n) (S04 _ _ tw.d), ?_⟩
      refine ⟨d, _, rfl, DPut.k (k := Sum.inr (π n)) hsv4 (by omega), ?_⟩
      refine ⟨⟨_, _, rfl⟩, same_upd S04 hd, by rw [upd_ne ndl]; exact S4 _ _ hlw, _, upd_same, ?_, fun m hm => ?_⟩
      · have := length_putK sv (Sum.inr (π n) : Key) (sg (F n))
        omega
      · rw [valV_put]
        rw [List.take_succ, hn] at hm
        rcases List.mem_append.mp hm with q | q
        · by_cases c : π m = π n
          · have := tw.o.inj m (List.mem_of_mem_take q) n hnm c
            rw [if_pos (by rw [c]), this]
          · rw [if_neg fun e => c (Sum.inr.inj e)]
            exact ag m q
        · have : m = n := by simpa using q
          rw [this, if_pos rfl]
    · obtain ⟨⟨x5, x6, rfl⟩, Sm, hlw, sv, hsv, svl, ag⟩ := pv
      rw [List.length_map, List.take_length] at ag
      try dsimp only
      repeat walk_at "vc"
      refine ⟨i_tyS, ?_⟩
      refine i_cons (i_comp (s_list ?_))
      repeat walk_at "vc"
      refine ⟨a', li', lg', ins', gvs', gs', rfl, tw.n2.same Sm, nq'.1, fun lv H5 S5 nlv hv => ⟨lv, rfl, ⟨_, SqL.of hv⟩, ?_⟩⟩
      have wl' : (wiresN ins' gs').length ≤ 100 := by
        have := tw.o.wires.length_eq
        rw [List.length_map] at this
        omega
      have df : DFn sv (wiresN ins' gs') (gF π (wiresN ins gs) F) := fun m hm => by
        obtain ⟨u, hu, rfl⟩ := List.mem_map.mp (tw.o.wires.mem_iff.mp hm)
        rw [ag u hu, gF_at tw.o.inj F hu]
      refine' comp_row ?h1 (S5 _ _ hsv) hv df wl' ?h2 ?h3
      case h1 => intro x; exact ⟨rfl, trivial⟩
      case h2 => intro x H' Q' h; exact i_dget (i_var rfl (i_var rfl h))
      intro L H6 hL SL hLl
      refine i_nil ⟨"", L, _, rfl, rfl, SqL.of hLl, ?_, ?_⟩
      · rw [sum_ones]
        have : ("" : Str).length = 0 := by decide +kernel
        rw [this]
        omega
      · have e0 : ("" : Str) = Str.empty := by decide +kernel
        rw [e0, join_row]
        exact k H6 (Sm.trans (S5.trans SL))
end
set_option Elab.async false
set_option linter.all false
set_option maxRecDepth 100000
set_option maxHeartbeats 4000000

noncomputable def spSame7 : Sp := fun vs H Q _ => ∃ a li lg ins gvs gs a' li' lg' ins' gvs' gs' nd kvs π F, vs = [.ref a, .ref a', .ref nd, .str (rowT F (wiresN ins gs))] ∧ Two7 H a li lg ins gvs gs a' li' lg' ins' gvs' gs' nd kvs π ∧ ∀ H', Same H H' → Q (.bl true) H'
theorem ask_take {F : Str → Bool} {gs : List (Str × Rl)} {m : Nat} {g : Str × Rl} (e : gs[m]? = some g) : askF F (gs.take (m + 1)) = if (!(g.2.val F == F g.1)) = true then askF F (gs.take m) ++ [g.1] else askF F (gs.take m) := by
  rw [List.take_succ, e]
  show askF F (gs.take m ++ [g]) = _
  unfold askF
  rw [List.filter_append, List.map_append, List.filter_cons, List.filter_nil]
  split
  · rfl
  · simp
theorem idx_first {ws : List Str} {n : Str} (h : n ∈ ws) : ws[ws.idxOf n]? = some n ∧ (∀ m, m < ws.idxOf n → ws[m]? ≠ some n) ∧ ws.idxOf n < ws.length := by
  have hl : ws.idxOf n < ws.length := List.idxOf_lt_length_iff.mpr h
  refine ⟨by rw [List.getElem?_eq_getElem hl, List.getElem_idxOf hl], fun m hm e => ?_, hl⟩
  have h3 : ws[m]'(by omega) = n := (List.getElem?_eq_some_iff.mp e).2
  have h4 := List.not_of_lt_findIdx (p := (· == n)) hm
  simp [h3] at h4
theorem sg_str (b : Bool) : ∃ y, sg b = .str y := ⟨_, sg_c b⟩
theorem eqd_str_lists {K : PySem.W.Frag} {H : Hp} (ns : List Str) : ∀ (j : Nat) x y, (ns.map V.str)[j]? = some x → (ns.map V.str)[j]? = some y → EqD K H 8 x y true := strs_eqd ns
section
variable {P : Program} {w : World} {K : PySem.W.Frag} {mg : Str → Option Value} {base : Heap} {TT : Addr}
theorem sc_law_same : FnScope ["net", "other", "names", "standing", "there", "due"] ["net", "other", "names", "standing"] (defScope (top 44)) := ⟨rfl, rfl, rfl, by decide +kernel, rfl, by decide +kernel, by decide +kernel⟩
theorem ok_same7 {f : Addr} {fd : FuncData} (Fu : Fun K "_law_same" "_law_same" (top 44) f fd) (T : Txt K mg TT) (f_law_moved : Fn P w K mg base "_law_moved" ["net", "other", "names", "standing"] 3 spMv) (f_worth_of : Fn P w K mg base "worth_of" ["net", "rule", "standing"] 12 spWorthOf) (f_wires_of : Fn P w K mg base "wires_of" ["net"] 2 spWires) (f_asked_gates : Fn P w K mg base "asked_gates" ["net", "standing"] 13 spAsked) :
    FnOk P w K mg base CX0 14 f fd ["net", "other", "names", "standing"] spSame7 := by
  have S := sc_law_same
  refine Fu.ok S (fun vs H Q E h => ?_) (fun cdv A outer s H vs Q E hr h => ?_)
  · obtain ⟨a, li, lg, ins, gvs, gs, a', li', lg', ins', gvs', gs', nd, kvs, π, F, rfl, _⟩ := h
    rfl
  · obtain ⟨a, li, lg, ins, gvs, gs, a', li', lg', ins', gvs', gs', nd, kvs, π, F, rfl, tw, k⟩ := h
    obtain ⟨ok, i4, g1, g7, ndp⟩ := id tw.q
    obtain ⟨ok', i4', g1', g7', ndp'⟩ := tw.o.net tw.q
    have hu := hu_of hr
    have big : 1000 < sizeLine := by decide
    have wl : (wiresN ins gs).length ≤ 11 := by unfold wiresN; rw [List.length_append, List.length_map]; omega
    have gl := paired_len tw.n1.gates
    have askr := asked_row ok F
    have aw := ask_len F gs
    generalize hz : rowT F (wiresN ins gs) = z at askr
    have st : StOk (wiresN ins gs).length z := by rw [← hz]; exact row_ok _ _
    have sF : ∀ n ∈ wiresN ins gs, sgn (wiresN ins gs) z n = F n := fun n hn => by rw [← hz]; exact sgn_row F hn
    refine' ⟨?_, (pss_cons ?h0 (pss_cons ?h1 (pss_cons (ps_if ?h2 (pss_one ?h3) pss_nil) (pss_one ?h4)))), ?_⟩
    case h0 =>
      refine' ps_set (i := 4) ?n ?r ?l ?e ?s ?f
      case n => exact S.nd
      case r => rfl
      case l => first | exact Or.inl rfl | exact Or.inr rfl
      case s => rfl
      case f => first | exact Or.inl rfl | exact Or.inr rfl
      case e => exact (pe_fn f_law_moved (hr.mono (by first | decide | omega)) (by rfl) (pa_cons (pv 0) (pa_cons (pv 1) (pa_cons (pv 2) (pa_cons (pv 3) pa_nil)))))
    case h1 => exact (ps_lc (j := 5) S.nd rfl (by first | exact Or.inl rfl | exact Or.inr rfl) (tgs := ["name", "rule"]) (cap := [("net", 0), ("standing", 3)]) rfl ⟨rfl, rfl, rfl, rfl, rfl, rfl⟩ (pi_list (pe_ix ix_tup (pv 0) pe_int (fun _ _ => rfl))) (fun _ _ _ _ => (pg_tupK (K := K) (n := 2) rfl rfl (pgs_cons (pg_name (i := 0) (show List.Nodup [("name" : Str), ("rule" : Str), ("net" : Str), ("standing" : Str)] by decide +kernel) rfl (by first | exact Or.inl rfl | exact Or.inr rfl)) (pgs_cons (pg_name (i := 1) (show List.Nodup [("name" : Str), ("rule" : Str), ("net" : Str), ("standing" : Str)] by decide +kernel) rfl (by first | exact Or.inl rfl | exact Or.inr rfl)) pgs_nil)))) (fun _ _ _ _ => (pifs_one (pt_cmpR op_ne (pe_fn f_worth_of (hr.mono (by first | decide | omega)) (by rfl) (pa_cons (pv 2) (pa_cons (pv 1) (pa_cons (pv 3) pa_nil)))) (pe_ix ix_str (pv 3) (pe_bmK (K := K) rfl PySem.F.plainAttrs_list PySem.F.slot_list_index PySem.F.type_list_index mt_index (pe_fn f_wires_of (hr.mono (by first | decide | omega)) (by rfl) (pa_cons (pv 2) pa_nil)) (pa_cons (pv 0) pa_nil)) (fun _ _ => rfl)) (nomark _)))) (fun _ _ _ _ => (pv 0)))
    case h2 => exact (pt_cmpR (op_neL hr.units) (pe_fn f_asked_gates (hr.mono (by first | decide | omega)) (by rfl) (pa_cons (pv 0) (pa_cons (pv 3) pa_nil))) (pv 5) (nomark _))
    case h3 => exact (ps_ret pe_bl)
    case h4 => exact (ps_ret (pe_cmpR (op_eqL hr.units) (pe_callB call_sorted (by rfl) T.n_sorted PyProof.Rows.boot_sorted (pa_cons (pe_fn f_asked_gates (hr.mono (by first | decide | omega)) (by rfl) (pa_cons (pv 1) (pa_cons (pv 4) pa_nil))) pa_nil)) (pe_callB call_sorted (by rfl) T.n_sorted PyProof.Rows.boot_sorted (pa_cons (pe_lc (tgs := ["name"]) (cap := [("names", 2)]) rfl ⟨rfl, rfl, rfl, rfl, rfl, rfl⟩ (pi_list (pv 5)) (fun _ _ _ _ => (pg_name (i := 0) (show List.Nodup [("name" : Str), ("names" : Str)] by decide +kernel) rfl (by first | exact Or.inl rfl | exact Or.inr rfl))) (fun _ _ _ _ => pifs_nil) (fun _ _ _ _ => (pe_dget hu (pv 1) (pv 0) (fun _ _ => rfl)))) pa_nil)) (nomark _)))
    try dsimp only [cxOf, Cx.nox, Cx.wish]
    rw [show L2.start ["net", "other", "names", "standing", "there", "due"] [V.ref a, V.ref a', V.ref nd, V.str z] = [some (.ref a), some (.ref a'), some (.ref nd), some (.str z), none, none] from rfl]
    repeat walk_at "vc"
    refine ⟨a, li, lg, ins, gvs, gs, a', li', lg', ins', gvs', gs', nd, kvs, π, F, by rw [hz], tw, fun H1 S1 => ?_⟩
    have tw1 := tw.same S1
    have ha1 := tw1.n1.ha
    have hg1 := tw1.n1.hg
    repeat walk_at "vc"
    refine i_comp ?_
    repeat walk_at "vc"
    refine ⟨lg, rfl, ⟨_, SqL.of hg1⟩, fun L hL => ?_⟩
    refine comp_listF (xs := gvs) (fun m H' ys => Same H1 H' ∧ H' L = some (.lst ys) ∧ ys = (askF F (gs.take m)).map V.str) ⟨fresh_same hL, upd_same, rfl⟩ (fun m H' ys p => ⟨p.2.1, SqL.of (p.1 _ _ hg1)⟩) (fun m x H' ys e p => ?_) (fun H2 ys p => ?_)
    · obtain ⟨Sm, hd', rfl⟩ := p
      have hm' : m < gvs.length := (List.getElem?_eq_some_iff.mp e).1
      obtain ⟨g, e', b, rv, rfl, hb, hrr⟩ := paired_at tw1.n1.gates m x e
      have hgm := List.mem_of_getElem? e'
      obtain ⟨r1, r2⟩ := ok.rules g hgm
      have hgw : g.1 ∈ wiresN ins gs := by unfold wiresN; exact List.mem_append_right _ (List.mem_map_of_mem hgm)
      refine ⟨b, _, rfl, SqT.of (Sm _ _ hb), rfl, ?_⟩
      refine ⟨_, _, rfl, s_name ⟨_, _, rfl, s_name ⟨rfl, ⟨by repeat' (first | exact trivial | refine ⟨rfl, ?_⟩), ?_⟩⟩⟩⟩
      repeat walk_at "vc"
      refine ⟨a, li, lg, ins, gvs, gs, z, rv, g.2, rfl, tw1.n1.same Sm, tw.q, st, hrr.mono (Same.tups Sm), r2, r1, fun H3 S3 => ?_⟩
      repeat walk_at "vc"
      refine ⟨a, li, lg, ins, gvs, gs, rfl, (tw1.n1.same Sm).same S3, ok, fun lw H4 S4 nlw hw => ?_⟩
      refine ⟨i_tyL hw, ?_⟩
      repeat walk_at "vc"
      obtain ⟨hix, hno, hlt⟩ := idx_first hgw
      refine ⟨lw, wiresN ins gs, g.1, _, rfl, rfl, hw, hix, hno, by omega, ?_⟩
      have zl : z.cps.toList.length = (wiresN ins gs).length := by rw [Array.length_toList, st.len]
      refine i_ixS (c := z.cps.toList[(wiresN ins gs).idxOf g.1]'(by omega)) (by show z.cps.size ≤ _; rw [st.len]; omega) (atI_nat (List.getElem?_eq_getElem (by omega))) ?_
      have es : V.str ⟨#[z.cps.toList[(wiresN ins gs).idxOf g.1]'(by omega)]⟩ = sg (F g.1) := by
        have q := sgn_at ndp st hix
        rw [sF _ hgw] at q
        rw [← q]
        unfold signV
        have : z.cps.getD ((wiresN ins gs).idxOf g.1) 0 = z.cps.toList[(wiresN ins gs).idxOf g.1]'(by omega) := by
          have hsz : (wiresN ins gs).idxOf g.1 < z.cps.size := by rw [st.len]; omega
          simp [Array.getD, hsz]
        rw [this]
      rw [es, rl_val sF g.2 r1]
      obtain ⟨y1, e1⟩ := sg_str (g.2.val F)
      obtain ⟨y2, e2⟩ := sg_str (F g.1)
      refine i_ne (by rw [e1, e2]; rfl) ?_
      refine ⟨_, rfl, ?_⟩
      rw [sg_eq]
      have S04 := Sm.trans (S3.trans S4)
      have hd4 := (S3.trans S4) _ _ hd'
      have al : ((askF F (gs.take m)).map V.str).length < sizeLine := by
        have := ask_len F (gs.take m)
        rw [List.length_take] at this
        rw [List.length_map]
        omega
      have tk := ask_take (F := F) e'
      cases c : (!(g.2.val F == F g.1)) with
      | true =>
        rw [c, if_pos rfl] at tk
        refine iteT (i_var rfl ?_)
        refine NextC.mk hd4 hm' al ⟨same_upd S04 hL, upd_same, ?_⟩
        rw [tk, List.map_append]
        rfl
      | false =>
        rw [c, if_neg Bool.false_ne_true] at tk
        refine iteF ?_
        exact ⟨gvs.length - (m + 1), by omega, rfl, by omega, S04, hd4, by rw [tk]⟩
    obtain ⟨S2, hL2, rfl⟩ := p
    rw [gl, List.take_length] at hL2
    have tw2 := tw1.same S2
    have S02 := S1.trans S2
    repeat walk_at "vc"
    refine ⟨a, li, lg, ins, gvs, gs, z, rfl, tw2.n1, ok, ndp, st, fun l3 H3 S3 nl3 h3 => ?_⟩
    rw [askr] at h3
    repeat walk_at "vc"
    refine ⟨l3, L, _, _, fun _ => true, rfl, rfl, SqL.of h3, SqL.of (S3 _ _ hL2), eqd_str_lists _, ?_⟩
    refine ⟨_, rfl, ifF (by simp) ?_⟩
    have tw3 := tw2.same S3
    have hL3 := S3 _ _ hL2
    have d3 := tw3.d
    repeat walk_at "vc"
    refine ⟨a', li', lg', ins', gvs', gs', _, rfl, tw3.n2, ok', ndp', row_ok _ _, fun l4 H4 S4 nl4 h4 => ?_⟩
    rw [asked_row ok'] at h4
    have pa := tw.o.ask ok F
    have pal := pa.length_eq
    rw [List.length_map] at pal
    refine ⟨l4, _, rfl, h4, by omega, fun p5 ss1 hp5 pm1 so1 => ?_⟩
    generalize hE : upd H4 p5 _ = H5
    obtain ⟨S5, q5⟩ := upd_pair hp5 hE
    clear hE
    have S35 := S4.trans S5
    have hL5 := S35 _ _ hL3
    have d5 := S35 _ _ d3
    repeat walk_at "vc"
    refine i_comp ?_
    repeat walk_at "vc"
    refine ⟨L, rfl, ⟨_, SqL.of hL5⟩, fun M hM => ?_⟩
    refine comp_list (xs := (askF F gs).map V.str) (fun m H' ys => Same H5 H' ∧ H' M = some (.lst ys) ∧ ys = (((askF F gs).map π).take m).map V.str) ⟨fresh_same hM, upd_same, by simp⟩ (fun m H' ys p => ⟨p.2.1, SqL.of (p.1 _ _ hL5)⟩) (fun m x H' ys e p => ?_) (fun H6 ys p => ?_)
    · obtain ⟨Sm, hd', rfl⟩ := p
      have hm' : m < ((askF F gs).map V.str).length := (List.getElem?_eq_some_iff.mp e).1
      rw [List.getElem?_map] at e
      obtain ⟨n, hn, rfl⟩ : ∃ n, (askF F gs)[m]? = some n ∧ V.str n = x := by
        cases h : (askF F gs)[m]? with
        | none => rw [h] at e; cases e
        | some n => rw [h] at e; exact ⟨n, rfl, Option.some.inj e⟩
      refine s_name ⟨by repeat' (first | exact trivial | refine ⟨rfl, ?_⟩), i_yes (iteT ?_)⟩
      repeat walk_at "vc"
      have vn := tw.nm n (by unfold wiresN; exact List.mem_append_right _ (ask_in (List.mem_of_getElem? hn)))
      refine ⟨nd, _, rfl, by rw [← vn]; exact DGet.k (k := Sum.inr n) (Sm _ _ d5), ?_⟩
      rw [List.length_map] at hm'
      refine NextC.mk hd' (by rw [List.length_map]; exact hm') (by rw [List.length_map, List.length_take]; omega) ⟨same_upd Sm hM, upd_same, ?_⟩
      rw [List.take_succ, List.getElem?_map, hn, List.map_append]
      rfl
    obtain ⟨S6, hM6, rfl⟩ := p
    rw [List.take_of_length_le (by simp)] at hM6
    refine i_nil ⟨M, _, rfl, hM6, by rw [List.length_map]; omega, fun p7 ss2 hp7 pm2 so2 => ?_⟩
    have es : ss1 = ss2 := sorted_eq so1 so2 (pm1.trans (pa.trans pm2.symm))
    subst es
    generalize hE : upd H6 p7 _ = H7
    obtain ⟨S7, q7⟩ := upd_pair hp7 hE
    clear hE
    refine ⟨p5, p7, _, _, fun _ => true, rfl, rfl, SqL.of (S7 _ _ (S6 _ _ q5)), SqL.of q7, eqd_str_lists _, ?_⟩
    have e : (if false = true then !((ss1.map V.str).length == (ss1.map V.str).length && (List.range (ss1.map V.str).length).all fun _ => true) else ((ss1.map V.str).length == (ss1.map V.str).length && (List.range (ss1.map V.str).length).all fun _ => true)) = true := by simp
    rw [e]
    exact k H7 (S02.trans (S3.trans (S35.trans (S6.trans S7))))
end
set_option Elab.async false
set_option linter.all false
set_option maxRecDepth 100000
set_option maxHeartbeats 4000000

noncomputable def spWalk7 : Sp := fun vs H Q _ => ∃ (D : Dk) (a li lg : Addr) (ins : List Str) (gvs : List V) (gs : List (Str × Rl)) (a' li' lg' : Addr) (ins' : List Str) (gvs' : List V) (gs' : List (Str × Rl)) (nd : Addr) (kvs : List (Key × V)) (π : Str → Str), vs = [.ref D.d, .ref a, .ref a', .ref nd] ∧ D.At H ∧ Two7 H a li lg ins gvs gs a' li' lg' ins' gvs' gs' nd kvs π ∧ ∀ H', Kp D H H' → Q (.bl true) H'
theorem pick3 {as bs : List Str} {r : Int} (h0 : 0 ≤ r) (h1 : r < as.length + bs.length + 1) : ∃ v, atI (as.map V.str ++ bs.map V.str ++ [V.non]) r = some v ∧ ((∃ n ∈ as, v = .str n) ∨ (∃ n ∈ bs, v = .str n) ∨ v = .non) := by
  obtain ⟨i, rfl⟩ := Int.eq_ofNat_of_zero_le h0
  by_cases c1 : i < as.length
  · refine ⟨.str as[i], atI_nat ?_, .inl ⟨_, List.getElem_mem c1, rfl⟩⟩
    rw [List.getElem?_append_left (by simp; omega), List.getElem?_append_left (by simpa using c1), List.getElem?_map, List.getElem?_eq_getElem c1]
    rfl
  · by_cases c2 : i < as.length + bs.length
    · have c3 : i - as.length < bs.length := by omega
      refine ⟨.str bs[i - as.length], atI_nat ?_, .inr (.inl ⟨_, List.getElem_mem c3, rfl⟩)⟩
      rw [List.getElem?_append_left (by simp; omega), List.getElem?_append_right (by simp; omega), List.length_map, List.getElem?_map, List.getElem?_eq_getElem c3]
      rfl
    · refine ⟨.non, atI_nat ?_, .inr (.inr rfl)⟩
      rw [List.getElem?_append_right (by simp; omega)]
      have : i - (as.map V.str ++ bs.map V.str).length = 0 := by simp; omega
      rw [this]
      rfl
theorem inV_non (ns : List Str) : inV .non (ns.map V.str) = false := by
  unfold inV
  rw [List.any_eq_false]
  intro x hx
  obtain ⟨n, _, rfl⟩ := List.mem_map.mp hx
  simp [eqV]
section
variable {P : Program} {w : World} {K : PySem.W.Frag} {mg : Str → Option Value} {base : Heap} {TT : Addr}
theorem sc_law_walked : FnScope ["deck", "net", "other", "names", "standing", "step", "there", "some", "name"] ["deck", "net", "other", "names"] (defScope (top 45)) := ⟨rfl, rfl, rfl, by decide +kernel, rfl, by decide +kernel, by decide +kernel⟩
theorem ok_walk7 {f : Addr} {fd : FuncData} (Fu : Fun K "_law_walked" "_law_walked" (top 45) f fd) (T : Txt K mg TT) (f_law_standing : Fn P w K mg base "_law_standing" ["deck", "net"] 2 spStanding) (f_law_same : Fn P w K mg base "_law_same" ["net", "other", "names", "standing"] 14 spSame7) (f_law_moved : Fn P w K mg base "_law_moved" ["net", "other", "names", "standing"] 3 spMv) (f_asked_gates : Fn P w K mg base "asked_gates" ["net", "standing"] 13 spAsked) (f_law_draw : Fn P w K mg base "_law_draw" ["deck", "many"] 1 spDraw)
    (f_switch_gate : Fn P w K mg base "switch_gate" ["net", "standing", "name"] 14 spSwitchG) (f_turn_input : Fn P w K mg base "turn_input" ["net", "standing", "name"] 5 spTurnG) : FnOk P w K mg base CX0 15 f fd ["deck", "net", "other", "names"] spWalk7 := by
  have S := sc_law_walked
  refine Fu.ok S (fun vs H Q E h => ?_) (fun cdv A outer s H vs Q E hr h => ?_)
  · obtain ⟨D, a, li, lg, ins, gvs, gs, a', li', lg', ins', gvs', gs', nd, kvs, π, rfl, _⟩ := h
    rfl
  · obtain ⟨D, a, li, lg, ins, gvs, gs, a', li', lg', ins', gvs', gs', nd, kvs, π, rfl, DA, tw, k⟩ := h
    obtain ⟨ok, i4, g1, g7, ndp⟩ := id tw.q
    obtain ⟨ok', i4', g1', g7', ndp'⟩ := tw.o.net tw.q
    have hu := hu_of hr
    have big : 1000 < sizeLine := by decide
    refine' ⟨?_, ?bb, ?_⟩
    case bb =>
      refine' pss_cons ?s1 ?r1
      case s1 =>
        refine' ps_set (i := 4) ?n ?r ?l ?e ?s ?f
        case n => exact S.nd
        case r => rfl
        case l => first | exact Or.inl rfl | exact Or.inr rfl
        case s => rfl
        case f => first | exact Or.inl rfl | exact Or.inr rfl
        case e => exact (pe_fn f_law_standing (hr.mono (by first | decide | omega)) (by rfl) (pa_cons (pv 0) (pa_cons (pv 1) pa_nil)))
      case r1 =>
        with_reducible refine' pss_cons ?s3 ?r3
        case s3 =>
          refine' ps_for PassesOwn.never rfl ?i4 ?g4 ?b4 ?h4
          case h4 => intro _; rfl
          case i4 => exact (pi_range1 (by rfl) T.n_range (pa_cons pe_int pa_nil))
          case g4 => exact (pg_name (i := 5) S.nd rfl (by first | exact Or.inl rfl | exact Or.inr rfl))
          case b4 =>
            with_reducible refine' pss_cons ?s5 ?r5
            case s5 =>
              with_reducible refine' ps_if ?c6 ?a6 ?o6
              case c6 => exact (pt_not (pt_val (pe_fn f_law_same (hr.mono (by first | decide | omega)) (by rfl) (pa_cons (pv 1) (pa_cons (pv 2) (pa_cons (pv 3) (pa_cons (pv 4) pa_nil)))))))
              case a6 =>
                with_reducible refine' pss_one ?s7
                case s7 =>
                  exact (ps_ret pe_bl)
              case o6 =>
                exact pss_nil
            case r5 =>
              with_reducible refine' pss_cons ?s9 ?r9
              case s9 =>
                refine' ps_set (i := 6) ?n ?r ?l ?e ?s ?f
                case n => exact S.nd
                case r => rfl
                case l => first | exact Or.inl rfl | exact Or.inr rfl
                case s => rfl
                case f => first | exact Or.inl rfl | exact Or.inr rfl
                case e => exact (pe_fn f_law_moved (hr.mono (by first | decide | omega)) (by rfl) (pa_cons (pv 1) (pa_cons (pv 2) (pa_cons (pv 3) (pa_cons (pv 4) pa_nil)))))
              case r9 =>
                with_reducible refine' pss_cons ?s11 ?r11
                case s11 =>
                  refine' ps_set (i := 7) ?n ?r ?l ?e ?s ?f
                  case n => exact S.nd
                  case r => rfl
                  case l => first | exact Or.inl rfl | exact Or.inr rfl
                  case s => rfl
                  case f => first | exact Or.inl rfl | exact Or.inr rfl
                  case e => exact (pe_fn f_asked_gates (hr.mono (by first | decide | omega)) (by rfl) (pa_cons (pv 1) (pa_cons (pv 4) pa_nil)))
                case r11 =>
                  with_reducible refine' pss_cons ?s13 ?r13
                  case s13 =>
                    refine' ps_set (i := 8) ?n ?r ?l ?e ?s ?f
                    case n => exact S.nd
                    case r => rfl
                    case l => first | exact Or.inl rfl | exact Or.inr rfl
                    case s => rfl
                    case f => first | exact Or.inl rfl | exact Or.inr rfl
                    case e => exact (pe_ix ix_list (pe_op op_cat (pe_op op_cat (pv 7) (pe_ix ix_tup (pv 1) pe_int (fun _ _ => rfl))) (pe_lst (pa_cons pe_non pa_nil))) (pe_fn f_law_draw (hr.mono (by first | decide | omega)) (by rfl) (pa_cons (pv 0) (pa_cons (pe_op op_add (pe_op op_add (pe_callB call_len_seq (by rfl) T.n_len PySem.boot_len (pa_cons (pv 7) pa_nil)) (pe_callB call_len_seq (by rfl) T.n_len PySem.boot_len (pa_cons (pe_ix ix_tup (pv 1) pe_int (fun _ _ => rfl)) pa_nil))) pe_int) pa_nil))) (fun _ _ => rfl))
                  case r13 =>
                    with_reducible refine' pss_cons ?s15 ?r15
                    case s15 =>
                      with_reducible refine' ps_if ?c16 ?a16 ?o16
                      case c16 => exact (pt_cmpR op_in_seq (pv 8) (pv 7) rfl)
                      case a16 =>
                        with_reducible refine' pss_cons ?s17 ?r17
                        case s17 =>
                          refine' ps_set (i := 4) ?n ?r ?l ?e ?s ?f
                          case n => exact S.nd
                          case r => rfl
                          case l => first | exact Or.inl rfl | exact Or.inr rfl
                          case s => rfl
                          case f => first | exact Or.inl rfl | exact Or.inr rfl
                          case e => exact (pe_fn f_switch_gate (hr.mono (by first | decide | omega)) (by rfl) (pa_cons (pv 1) (pa_cons (pv 4) (pa_cons (pv 8) pa_nil))))
                        case r17 =>
                          with_reducible refine' pss_one ?s19
                          case s19 =>
                            refine' ps_set (i := 6) ?n ?r ?l ?e ?s ?f
                            case n => exact S.nd
                            case r => rfl
                            case l => first | exact Or.inl rfl | exact Or.inr rfl
                            case s => rfl
                            case f => first | exact Or.inl rfl | exact Or.inr rfl
                            case e => exact (pe_fn f_switch_gate (hr.mono (by first | decide | omega)) (by rfl) (pa_cons (pv 2) (pa_cons (pv 6) (pa_cons (pe_dget hu (pv 3) (pv 8) (fun _ _ => rfl)) pa_nil))))
                      case o16 =>
                        with_reducible refine' pss_one ?s21
                        case s21 =>
                          with_reducible refine' ps_if ?c22 ?a22 ?o22
                          case c22 => exact (pt_cmpR op_notN (pv 8) pe_non rfl)
                          case a22 =>
                            with_reducible refine' pss_cons ?s23 ?r23
                            case s23 =>
                              refine' ps_set (i := 4) ?n ?r ?l ?e ?s ?f
                              case n => exact S.nd
                              case r => rfl
                              case l => first | exact Or.inl rfl | exact Or.inr rfl
                              case s => rfl
                              case f => first | exact Or.inl rfl | exact Or.inr rfl
                              case e => exact (pe_fn f_turn_input (hr.mono (by first | decide | omega)) (by rfl) (pa_cons (pv 1) (pa_cons (pv 4) (pa_cons (pv 8) pa_nil))))
                            case r23 =>
                              with_reducible refine' pss_one ?s25
                              case s25 =>
                                refine' ps_set (i := 6) ?n ?r ?l ?e ?s ?f
                                case n => exact S.nd
                                case r => rfl
                                case l => first | exact Or.inl rfl | exact Or.inr rfl
                                case s => rfl
                                case f => first | exact Or.inl rfl | exact Or.inr rfl
                                case e => exact (pe_fn f_turn_input (hr.mono (by first | decide | omega)) (by rfl) (pa_cons (pv 2) (pa_cons (pv 6) (pa_cons (pe_dget hu (pv 3) (pv 8) (fun _ _ => rfl)) pa_nil))))
                          case o22 =>
                            exact pss_nil
                    case r15 =>
                      with_reducible refine' pss_one ?s27
                      case s27 =>
                        with_reducible refine' ps_if ?c28 ?a28 ?o28
                        case c28 => exact (pt_cmpR op_ne (pe_fn f_law_moved (hr.mono (by first | decide | omega)) (by rfl) (pa_cons (pv 1) (pa_cons (pv 2) (pa_cons (pv 3) (pa_cons (pv 4) pa_nil))))) (pv 6) (nomark _))
                        case a28 =>
                          with_reducible refine' pss_one ?s29
                          case s29 =>
                            exact (ps_ret pe_bl)
                        case o28 =>
                          exact pss_nil
        case r3 =>
          with_reducible refine' pss_one ?s31
          case s31 =>
            exact (ps_ret pe_bl)
    try dsimp only [cxOf, Cx.nox, Cx.wish]
    rw [show L2.start ["deck", "net", "other", "names", "standing", "step", "there", "some", "name"] [V.ref D.d, V.ref a, V.ref a', V.ref nd] = [some (.ref D.d), some (.ref a), some (.ref a'), some (.ref nd), none, none, none, none, none] from rfl]
    repeat walk_at "vc"
    refine ⟨D, a, li, lg, ins, gvs, gs, rfl, DA, tw.n1, ok, fun z H1 st k1 => ?_⟩
    have hz := row_self ndp st
    rw [← hz]
    generalize sgn (wiresN ins gs) z = F0
    clear hz st
    repeat walk_at "vc"
    refine ⟨by decide, by decide, ?_⟩
    refine for_range (n := 12) (fun i σ H' => (∃ F x5 x6 x7 x8, σ = [some (.ref D.d), some (.ref a), some (.ref a'), some (.ref nd), some (.str (rowT F (wiresN ins gs))), x5, x6, x7, x8]) ∧ Kp D H H') ⟨⟨F0, _, _, _, _, rfl⟩, k1⟩ (fun i σ H2 hi pv => ?_) (fun σ H' pv => ?_)
    · obtain ⟨⟨F, x5, x6, x7, x8, rfl⟩, kp⟩ := pv
      have tw2 := tw.kp DA kp
      refine s_name ?_
      repeat walk_at "vc"
      refine ⟨a, li, lg, ins, gvs, gs, a', li', lg', ins', gvs', gs', nd, kvs, π, F, rfl, tw2, fun H3 S3 => ?_⟩
      refine ⟨_, rfl, iteF ?_⟩
      have tw3 := tw2.same S3
      repeat walk_at "vc"
      refine ⟨a, li, lg, ins, gvs, gs, a', li', lg', ins', gvs', gs', nd, kvs, π, F, rfl, tw3, fun H4 S4 => ?_⟩
      have tw4 := tw3.same S4
      repeat walk_at "vc"
      refine ⟨a, li, lg, ins, gvs, gs, _, rfl, tw4.n1, ok, ndp, row_ok _ _, fun so H5 S5 nso hso => ?_⟩
      rw [asked_row ok] at hso
      have tw5 := tw4.same S5
      have al := ask_len F gs
      have ha5 := tw5.n1.ha
      have hi5 := tw5.n1.hi
      repeat walk_at "vc"
      refine i_cat hso hi5 (by rw [List.length_map, List.length_map]; omega) fun p6 hp6 => ?_
      generalize hE : upd H5 p6 _ = H6
      obtain ⟨S6, q6⟩ := upd_pair hp6 hE
      clear hE
      repeat walk_at "vc"
      refine ⟨by show 1 ≤ _; omega, fun p7 hp7 => ?_⟩
      generalize hE : upd H6 p7 _ = H7
      obtain ⟨S7, q7⟩ := upd_pair hp7 hE
      clear hE
      refine i_cat (S7 _ _ q6) q7 (by rw [List.length_append, List.length_map, List.length_map]; show _ + 1 ≤ _; omega) fun p8 hp8 => ?_
      generalize hE : upd H7 p8 _ = H8
      obtain ⟨S8, q8⟩ := upd_pair hp8 hE
      clear hE
      have S58 := S6.trans (S7.trans S8)
      have S28 := S3.trans (S4.trans (S5.trans S58))
      have hso8 := S58 _ _ hso
      have tw8 := tw5.same S58
      have ha8 := tw8.n1.ha
      have hi8 := tw8.n1.hi
      have kp8 := kp.trans (Kp.of kp.dk S28)
      have no8 : ¬ D.own p8 := notOwn_fresh (kp.trans (Kp.of kp.dk (S3.trans (S4.trans (S5.trans (S6.trans S7)))))).dk hp8
      repeat walk_at "vc"
      refine ⟨D, _, rfl, kp8.dk, by rw [List.length_map, List.length_map]; omega, by rw [List.length_map, List.length_map]; omega, fun r H9 r0 r1 k9 => ?_⟩
      rw [List.length_map, List.length_map] at r1
      obtain ⟨v, ev, hv⟩ := pick3 r0 r1
      refine i_ixL (SqL.of (k9.old _ _ q8 no8)) ev ?_
      have tw9 := tw8.kp kp8.dk k9
      have kp9 := kp8.trans k9
      have hso9 := k9.strs kp8.dk hso8
      refine s_name ?_
      have pa := tw.o.ask ok F
      with_reducible refine seq_join (fun σ H' => ∃ F' x8, σ = [some (.ref D.d), some (.ref a), some (.ref a'), some (.ref nd), some (.str (rowT F' (wiresN ins gs))), some (.int (0 + (i : Nat))), some (.str (rowT (gF π (wiresN ins gs) F') (wiresN ins' gs'))), some (.ref so), x8] ∧ Same H9 H') (fun R hR => ?_) ?_
      · have flat : flatV v = true := by
          rcases hv with ⟨n, _, rfl⟩ | ⟨n, _, rfl⟩ | rfl <;> rfl
        repeat walk_at "vc"
        refine i_in (SqL.of hso9) flat (flat_strs _) ?_
        refine ⟨_, rfl, ?_⟩
        by_cases c : ∃ n, n ∈ askF F gs ∧ v = .str n
        · obtain ⟨n, hn, rfl⟩ := c
          refine ifT (inV_str.mpr hn) ?_
          have hnw : n ∈ wiresN ins gs := by unfold wiresN; exact List.mem_append_right _ (ask_in hn)
          repeat walk_at "vc"
          refine ⟨a, li, lg, ins, gvs, gs, _, n, rfl, tw9.n1, ok, ndp, row_ok _ _, by rw [asked_row ok]; exact hn, fun H10 S10 => ?_⟩
          rw [fl_row]
          have tw10 := tw9.same S10
          repeat walk_at "vc"
          have vn := tw.nm n hnw
          refine ⟨nd, _, rfl, by rw [← vn]; exact DGet.k (k := Sum.inr n) tw10.d, ?_⟩
          repeat walk_at "vc"
          refine ⟨a', li', lg', ins', gvs', gs', _, π n, rfl, tw10.n2, ok', ndp', row_ok _ _, by rw [asked_row ok']; exact pa.mem_iff.mpr (List.mem_map_of_mem hn), fun H11 S11 => ?_⟩
          rw [fl_row, tw.o.fl F hnw]
          exact hR _ _ ⟨_, _, rfl, S10.trans S11⟩
        · have e1 : inV v ((askF F gs).map V.str) = false := by
            rcases hv with ⟨n, hn, rfl⟩ | ⟨n, hn, rfl⟩ | rfl
            · exact absurd ⟨n, hn, rfl⟩ c
            · cases q : inV (.str n) ((askF F gs).map V.str) with
              | false => rfl
              | true => exact absurd ⟨n, inV_str.mp q, rfl⟩ c
            · exact inV_non _
          refine ifF e1 ?_
          repeat walk_at "vc"
          refine ⟨rfl, ?_⟩
          refine ⟨_, rfl, ?_⟩
          rcases hv with ⟨n, hn, rfl⟩ | ⟨n, hn, rfl⟩ | rfl
          · exact absurd ⟨n, hn, rfl⟩ c
          · refine ifT (by simp) ?_
            have hnw : n ∈ wiresN ins gs := by unfold wiresN; exact List.mem_append_left _ hn
            repeat walk_at "vc"
            refine ⟨a, li, lg, ins, gvs, gs, _, n, rfl, tw9.n1, ok, ndp, row_ok _ _, hn, fun H10 S10 => ?_⟩
            rw [fl_row]
            have tw10 := tw9.same S10
            repeat walk_at "vc"
            have vn := tw.nm n hnw
            refine ⟨nd, _, rfl, by rw [← vn]; exact DGet.k (k := Sum.inr n) tw10.d, ?_⟩
            repeat walk_at "vc"
            refine ⟨a', li', lg', ins', gvs', gs', _, π n, rfl, tw10.n2, ok', ndp', row_ok _ _, tw.o.pi.mem_iff.mpr (List.mem_map_of_mem hn), fun H11 S11 => ?_⟩
            rw [fl_row, tw.o.fl F hnw]
            exact hR _ _ ⟨_, _, rfl, S10.trans S11⟩
          · refine ifF (by simp) ?_
            refine s_next ?_
            exact hR _ _ ⟨F, _, rfl, Same.refl _⟩
      · rintro σ H10 ⟨F', x8, rfl, S10⟩
        have tw10 := tw9.same S10
        repeat walk_at "vc"
        refine ⟨a, li, lg, ins, gvs, gs, a', li', lg', ins', gvs', gs', nd, kvs, π, F', rfl, tw10, fun H11 S11 => ?_⟩
        repeat walk_at "vc"
        refine ifF (by simp) ?_
        refine s_next ?_
        exact ⟨⟨F', _, _, _, _, rfl⟩, kp9.trans (Kp.of kp9.dk (S10.trans S11))⟩
    · obtain ⟨⟨F, x5, x6, x7, x8, rfl⟩, kp⟩ := pv
      repeat walk_at "vc"
      exact k H' kp
end
set_option Elab.async false
set_option linter.all false
set_option maxRecDepth 100000
set_option maxHeartbeats 4000000

theorem for_itf {n : Nat} {fv : Nat → V} {g : TG} {tb : TS} {D : Ends} {σ : St} {H : Hp} (Pv : Nat → St → Hp → Prop) (h0 : Pv 0 σ H)
    (hs : ∀ i σ H, i < n → Pv i σ H → g (fv i) σ H fun σ2 H2 => tb { D with nx := Pv (i + 1), ct := Pv (i + 1), bk := D.nx } σ2 H2) (hd : ∀ σ H, Pv n σ H → D.nx σ H) :
    ∃ W : Nat → Nat → St → Hp → Prop, (∃ m, W 0 m σ H) ∧ ∀ i m σ H, W i m σ H →
      ((Itf n fv).stop i H ∧ D.nx σ H) ∨ ((Itf n fv).go i H ∧ ∃ N : St → Hp → Prop, (∀ σ' H', N σ' H' → ∃ m', m' < m ∧ W (i + 1) m' σ' H') ∧ ∀ x H', (Itf n fv).yld i H x H' → g x σ H' fun σ2 H2 => tb { D with nx := N, ct := N, bk := D.nx } σ2 H2) := by
  refine ⟨fun i m σ H => m = n - i ∧ i ≤ n ∧ Pv i σ H, ⟨n, by simp, Nat.zero_le _, h0⟩, ?_⟩
  rintro i m σ H ⟨rfl, hi, p⟩
  by_cases hlt : i < n
  · refine .inr ⟨hlt, Pv (i + 1), fun σ' H' p' => ⟨n - (i + 1), by omega, rfl, hlt, p'⟩, fun x H' y => ?_⟩
    obtain ⟨e, y⟩ := y
    subst e y
    exact hs i _ _ hlt p
  · have e : i = n := by omega
    subst e
    exact .inl ⟨rfl, hd σ H p⟩
theorem ok_more {ws : List Str} {z : Str} : ∀ {r : Rl}, r.ok ws → r.ok (ws ++ [z])
  | .w n => fun h => List.mem_append_left _ h
  | .no r => fun h => ok_more (r := r) h
  | .an a b => fun h => ⟨ok_more (r := a) h.1, ok_more (r := b) h.2⟩
  | .orr a b => fun h => ⟨ok_more (r := a) h.1, ok_more (r := b) h.2⟩
theorem wires_more (ins : List Str) (gs : List (Str × Rl)) (g : Str × Rl) : wiresN ins (gs ++ [g]) = wiresN ins gs ++ [g.1] := by
  unfold wiresN
  rw [List.map_append, List.append_assoc]
  rfl
theorem low_onemore : Low "onemore" := by
  have h : 1 ≤ ("onemore" : Str).length ∧ ("onemore" : Str).length ≤ 8 ∧ ∀ c ∈ ("onemore" : Str).cps.toList, 97 ≤ c ∧ c ≤ 122 := by decide +kernel
  exact ⟨h.1, h.2.1, h.2.2⟩
theorem net_more {ins : List Str} {gs : List (Str × Rl)} {r : Rl} (q : NetQ ins gs) (g6 : gs.length ≤ 6) (hn : ("onemore" : Str) ∉ wiresN ins gs) (rok : r.ok (wiresN ins gs)) (hd : r.dep ≤ 10) : NetQ ins (gs ++ [(("onemore" : Str), r)]) := by
  obtain ⟨ok, i4, g1, g7, nd⟩ := q
  refine ⟨⟨by omega, by rw [List.length_append]; show _ + 1 ≤ _; omega, fun g hg => ?_, fun n hm => ?_⟩, i4, by rw [List.length_append]; omega, by rw [List.length_append]; show _ + 1 ≤ _; omega, ?_⟩
  · rw [wires_more]
    rcases List.mem_append.mp hg with h | h
    · exact ⟨ok_more (ok.rules g h).1, (ok.rules g h).2⟩
    · rw [List.mem_singleton.mp h]; exact ⟨ok_more rok, hd⟩
  · rw [wires_more] at hm
    rcases List.mem_append.mp hm with h | h
    · exact ok.low n h
    · rw [List.mem_singleton.mp h]; exact low_onemore
  · rw [wires_more, List.nodup_append]
    exact ⟨nd, by simp, fun a ha b hb e => hn (by rw [List.mem_singleton.mp hb] at e; have e : a = "onemore" := e; rw [← e]; exact ha)⟩
theorem sgn_more {ws : List Str} {z : Str} {c : Nat} {x n : Str} (st : StOk ws.length z) (hn : n ∈ ws) : sgn (ws ++ [x]) (z ++ ⟨#[c]⟩) n = sgn ws z n := by
  have hi : ws.idxOf n < ws.length := List.idxOf_lt_length_iff.mpr hn
  have e : (ws ++ [x]).idxOf n = ws.idxOf n := by rw [List.idxOf_append, if_pos hn]
  unfold sgn
  rw [e]
  have hz : ws.idxOf n < z.cps.size := by rw [st.len]; exact hi
  show ((z.cps ++ #[c]).getD (ws.idxOf n) 0 == 49) = _
  simp [Array.getD, hz, Array.getElem_append_left]
  rw [dif_pos (by omega), Array.getElem_push_lt hz]
theorem st_more {n : Nat} {z : Str} {c : Nat} (st : StOk n z) (hc : c = 48 ∨ c = 49) : StOk (n + 1) (z ++ ⟨#[c]⟩) := by
  refine ⟨?_, fun u hu => ?_⟩
  · show (z.cps ++ #[c]).size = _
    rw [Array.size_append, st.len]
    rfl
  · have hu : u ∈ (z.cps ++ #[c]).toList := hu
    rw [Array.toList_append] at hu
    rcases List.mem_append.mp hu with h | h
    · exact st.signs u h
    · have : u = c := List.mem_singleton.mp h
      rw [this]; exact hc
theorem ask_more {ins : List Str} {gs : List (Str × Rl)} {r : Rl} (ok : NetOk ins gs) (hn : ("onemore" : Str) ∉ wiresN ins gs) {F G : Str → Bool} (h : ∀ n ∈ wiresN ins gs, G n = F n) : (askF G (gs ++ [(("onemore" : Str), r)])).filter (fun z : Str => decide (z ≠ "onemore")) = askF F gs := by
  have e1 : askF G gs = askF F gs := by
    unfold askF
    congr 1
    refine List.filter_congr fun g hg => ?_
    have hw : g.1 ∈ wiresN ins gs := by unfold wiresN; exact List.mem_append.mpr (.inr (List.mem_map_of_mem hg))
    rw [rl_val h g.2 (ok.rules g hg).1, h _ hw]
  rw [ask_app, List.filter_append, e1]
  have e2 : (askF F gs).filter (fun z : Str => decide (z ≠ "onemore")) = askF F gs := List.filter_eq_self.mpr fun z hz => by
    refine decide_eq_true fun e => hn ?_
    rw [← e]
    unfold wiresN
    exact List.mem_append_right _ (ask_in hz)
  have e3 : (askF G [(("onemore" : Str), r)]).filter (fun z : Str => decide (z ≠ "onemore")) = [] := List.filter_eq_nil_iff.mpr fun z hz => by
    have := ask_in hz
    simp at this
    simp [this]
  rw [e2, e3, List.append_nil]
noncomputable def spMore : Sp := fun vs H Q _ => ∃ (D : Dk) (a li lg : Addr) (ins : List Str) (gvs : List V) (gs : List (Str × Rl)), vs = [.ref D.d, .ref a] ∧ D.At H ∧ NAt H a li lg ins gvs gs ∧ NetQ ins gs ∧ ∀ H', Kp D H H' → Q (.bl true) H'
section
variable {P : Program} {w : World} {K : PySem.W.Frag} {mg : Str → Option Value} {base : Heap} {TT : Addr}
theorem sc_law_more : FnScope ["deck", "net", "more", "standing", "sign", "some"] ["deck", "net"] (defScope (top 46)) := ⟨rfl, rfl, rfl, by decide +kernel, rfl, by decide +kernel, by decide +kernel⟩
theorem ok_more7 {f : Addr} {fd : FuncData} (Fu : Fun K "_law_more" "_law_more" (top 46) f fd) (T : Txt K mg TT) (f_wires_of : Fn P w K mg base "wires_of" ["net"] 2 spWires) (f_law_rule : Fn P w K mg base "_law_rule" ["deck", "names", "deep"] 11 (spRule 10)) (f_law_standing : Fn P w K mg base "_law_standing" ["deck", "net"] 2 spStanding) (f_asked_gates : Fn P w K mg base "asked_gates" ["net", "standing"] 13 spAsked) (f_is_net : Fn P w K mg base "is_net" ["thing"] 11 spIsNet) :
    FnOk P w K mg base CX0 14 f fd ["deck", "net"] spMore := by
  have S := sc_law_more
  refine Fu.ok S (fun vs H Q E h => ?_) (fun cdv A outer s H vs Q E hr h => ?_)
  · obtain ⟨D, a, li, lg, ins, gvs, gs, rfl, _⟩ := h
    rfl
  · obtain ⟨D, a, li, lg, ins, gvs, gs, rfl, DA, NA, nq, k⟩ := h
    obtain ⟨ok, i4, g1, g7, ndp⟩ := id nq
    obtain ⟨ha, hi, hg, gts⟩ := id NA
    have gl := paired_len gts
    have big : 1000 < sizeLine := by decide
    have wl : (wiresN ins gs).length ≤ 11 ∧ 1 ≤ (wiresN ins gs).length := by unfold wiresN; rw [List.length_append, List.length_map]; omega
    refine' ⟨?_, ?bb, ?_⟩
    case bb =>
      refine' pss_cons ?s1 ?r1
      case s1 =>
        with_reducible refine' ps_if ?c2 ?a2 ?o2
        case c2 => exact (PW.pt (pw_or (pt_cmpR op_eq (pe_callB call_len_seq (by rfl) T.n_len PySem.boot_len (pa_cons (pe_ix ix_tup (pv 1) pe_int (fun _ _ => rfl)) pa_nil)) pe_int (nomark _)) (pw_or1 (pt_cmpR op_in_seq pe_str (pe_fn f_wires_of (hr.mono (by first | decide | omega)) (by rfl) (pa_cons (pv 1) pa_nil)) rfl))))
        case a2 =>
          with_reducible refine' pss_one ?s3
          case s3 =>
            exact (ps_ret pe_bl)
        case o2 =>
          exact pss_nil
      case r1 =>
        with_reducible refine' pss_cons ?s5 ?r5
        case s5 =>
          refine' ps_set (i := 2) ?n ?r ?l ?e ?s ?f
          case n => exact S.nd
          case r => rfl
          case l => first | exact Or.inl rfl | exact Or.inr rfl
          case s => rfl
          case f => first | exact Or.inl rfl | exact Or.inr rfl
          case e => exact (pe_tup (pa_cons (pe_callTy call_list_of (by rfl) T.n_list PyProof.Rows.boot_list (pa_cons (pe_ix ix_tup (pv 1) pe_int (fun _ _ => rfl)) pa_nil)) (pa_cons (pe_op op_cat (pe_ix ix_tup (pv 1) pe_int (fun _ _ => rfl)) (pe_lst (pa_cons (pe_tup (pa_cons pe_str (pa_cons (pe_fn f_law_rule (hr.mono (by first | decide | omega)) (by rfl) (pa_cons (pv 0) (pa_cons (pe_fn f_wires_of (hr.mono (by first | decide | omega)) (by rfl) (pa_cons (pv 1) pa_nil)) (pa_cons pe_int pa_nil)))) pa_nil))) pa_nil))) pa_nil)))
        case r5 =>
          with_reducible refine' pss_cons ?s7 ?r7
          case s7 =>
            refine' ps_set (i := 3) ?n ?r ?l ?e ?s ?f
            case n => exact S.nd
            case r => rfl
            case l => first | exact Or.inl rfl | exact Or.inr rfl
            case s => rfl
            case f => first | exact Or.inl rfl | exact Or.inr rfl
            case e => exact (pe_fn f_law_standing (hr.mono (by first | decide | omega)) (by rfl) (pa_cons (pv 0) (pa_cons (pv 1) pa_nil)))
          case r7 =>
            with_reducible refine' pss_cons ?s9 ?r9
            case s9 =>
              refine' ps_for PassesOwn.never rfl ?i10 ?g10 ?b10 ?h10
              case h10 => intro _; rfl
              case i10 => exact (pi_str pe_str)
              case g10 => exact (pg_name (i := 4) S.nd rfl (by first | exact Or.inl rfl | exact Or.inr rfl))
              case b10 =>
                with_reducible refine' pss_cons ?s11 ?r11
                case s11 =>
                  refine' ps_set (i := 5) ?n ?r ?l ?e ?s ?f
                  case n => exact S.nd
                  case r => rfl
                  case l => first | exact Or.inl rfl | exact Or.inr rfl
                  case s => rfl
                  case f => first | exact Or.inl rfl | exact Or.inr rfl
                  case e => exact (pe_fn f_asked_gates (hr.mono (by first | decide | omega)) (by rfl) (pa_cons (pv 2) (pa_cons (pe_op op_add_str (pv 3) (pv 4)) pa_nil)))
                case r11 =>
                  with_reducible refine' pss_one ?s13
                  case s13 =>
                    with_reducible refine' ps_if ?c14 ?a14 ?o14
                    case c14 => exact (pt_cmpR (op_neL hr.units) (pe_lc (tgs := ["name"]) (cap := []) rfl ⟨rfl, rfl, rfl, rfl, rfl, rfl⟩ (pi_list (pv 5)) (fun _ _ _ _ => (pg_name (i := 0) (show List.Nodup [("name" : Str)] by decide +kernel) rfl (by first | exact Or.inl rfl | exact Or.inr rfl))) (fun _ _ _ _ => (pifs_one (pt_cmpR op_ne (pv 0) pe_str (nomark _)))) (fun _ _ _ _ => (pv 0))) (pe_fn f_asked_gates (hr.mono (by first | decide | omega)) (by rfl) (pa_cons (pv 1) (pa_cons (pv 3) pa_nil))) (nomark _))
                    case a14 =>
                      with_reducible refine' pss_one ?s15
                      case s15 =>
                        exact (ps_ret pe_bl)
                    case o14 =>
                      exact pss_nil
            case r9 =>
              with_reducible refine' pss_one ?s17
              case s17 =>
                exact (ps_ret (pe_cmpR op_isB (pe_fn f_is_net (hr.mono (by first | decide | omega)) (by rfl) (pa_cons (pv 2) pa_nil)) pe_bl rfl))
    try dsimp only [cxOf, Cx.nox, Cx.wish]
    rw [show L2.start ["deck", "net", "more", "standing", "sign", "some"] [V.ref D.d, V.ref a] = [some (.ref D.d), some (.ref a), none, none, none, none] from rfl]
    repeat walk_at "vc"
    by_cases c7 : gs.length = 7
    · refine ifT (decide_eq_true (by rw [gl, c7]; rfl)) (iteT ?_)
      repeat walk_at "vc"
      exact k H (Kp.of DA (Same.refl H))
    refine ifF (decide_eq_false fun h => by injection h with h; omega) ?_
    repeat walk_at "vc"
    refine ⟨a, li, lg, ins, gvs, gs, rfl, NA, ok, fun lw H1 S1 nlw hw => ?_⟩
    refine i_in (SqL.of hw) rfl (flat_strs _) ?_
    refine ⟨_, rfl, ?_⟩
    by_cases c1 : ("onemore" : Str) ∈ wiresN ins gs
    · refine ifT (inV_str.mpr c1) ?_
      repeat walk_at "vc"
      exact k H1 (Kp.of DA S1)
    refine ifF (by
      cases q : inV (.str "onemore") ((wiresN ins gs).map V.str) with
      | false => rfl
      | true => exact absurd (inV_str.mp q) c1) ?_
    have NA1 := NA.same S1
    have ha1 := NA1.ha
    have hi1 := NA1.hi
    have hg1 := NA1.hg
    have kp1 : Kp D H H1 := Kp.of DA S1
    repeat walk_at "vc"
    intro l2 hl2
    generalize hE : upd H1 l2 _ = H2
    obtain ⟨S2, q2⟩ := upd_pair hl2 hE
    clear hE
    have NA2 := NA1.same S2
    have ha2 := NA2.ha
    have kp2 := kp1.trans (Kp.of kp1.dk S2)
    repeat walk_at "vc"
    refine ⟨a, li, lg, ins, gvs, gs, rfl, NA2, ok, fun lw3 H3 S3 nlw3 hw3 => ?_⟩
    have NA3 := NA2.same S3
    have kp3 := kp2.trans (Kp.of kp2.dk S3)
    repeat walk_at "vc"
    refine ⟨D, lw3, wiresN ins gs, 4, rfl, kp3.dk, hw3, (fun e => by rw [e] at wl; simp at wl), by omega, by omega, by omega, fun v r H4 hv rok rd k4 => ?_⟩
    have NA4 := NA3.kp kp3.dk k4
    have q4 := k4.strs kp3.dk (S3 _ _ q2)
    have kp4 := kp3.trans k4
    repeat walk_at "vc"
    refine ⟨by show 2 ≤ _; omega, fun t5 ht5 => ?_⟩
    generalize hE : upd H4 t5 _ = H5
    obtain ⟨S5, q5⟩ := upd_pair ht5 hE
    clear hE
    repeat walk_at "vc"
    refine ⟨by show 1 ≤ _; omega, fun p6 hp6 => ?_⟩
    generalize hE : upd H5 p6 _ = H6
    obtain ⟨S6, q6⟩ := upd_pair hp6 hE
    clear hE
    refine i_cat ((S5.trans S6) _ _ NA4.hg) q6 (by show _ + 1 ≤ _; omega) fun p7 hp7 => ?_
    generalize hE : upd H6 p7 _ = H7
    obtain ⟨S7, q7⟩ := upd_pair hp7 hE
    clear hE
    repeat walk_at "vc"
    refine ⟨by show 2 ≤ _; omega, fun mo hmo => ?_⟩
    generalize hE : upd H7 mo _ = H8
    obtain ⟨S8, q8⟩ := upd_pair hmo hE
    clear hE
    have S48 := S5.trans (S6.trans (S7.trans S8))
    have kp8 := kp4.trans (Kp.of kp4.dk S48)
    have NA8 := NA4.same S48
    have NM : NAt H8 mo l2 p7 ins (gvs ++ [.ref t5]) (gs ++ [(("onemore" : Str), r)]) := ⟨q8, S48 _ _ q4, S8 _ _ q7, paired_snoc NA8.gates ⟨t5, v, rfl, (S6.trans (S7.trans S8)) _ _ q5, hv.mono (Same.tups S48)⟩⟩
    have nm := net_more nq (by omega) c1 rok (by omega)
    obtain ⟨okm, i4m, g1m, g7m, ndm⟩ := id nm
    repeat walk_at "vc"
    refine ⟨D, a, li, lg, ins, gvs, gs, rfl, kp8.dk, NA8, ok, fun z H9 st k9 => ?_⟩
    have NA9 := NA8.kp kp8.dk k9
    have NM9 := NM.kp kp8.dk k9
    have kp9 := kp8.trans k9
    repeat walk_at "vc"
    have n2 : (Str.ofString "01").cps.size = 2 := by decide +kernel
    have sv : ∀ i, i < 2 → ∃ c, signV (Str.ofString "01") i = .str ⟨#[c]⟩ ∧ (c = 48 ∨ c = 49) := fun i hi => by
      refine ⟨_, rfl, ?_⟩
      have : i = 0 ∨ i = 1 := by omega
      rcases this with e | e <;> subst e
      · exact .inl (by decide +kernel)
      · exact .inr (by decide +kernel)
    rw [n2]
    refine for_itf (n := 2) (fun i σ H' => (∃ x4 x5, σ = [some (.ref D.d), some (.ref a), some (.ref mo), some (.str z), x4, x5]) ∧ Same H9 H') ⟨⟨_, _, rfl⟩, Same.refl _⟩ (fun i σ H10 hi pv => ?_) (fun σ H10 pv => ?_)
    · obtain ⟨⟨x4, x5, rfl⟩, S10⟩ := pv
      obtain ⟨c, ec, hc⟩ := sv i hi
      rw [ec]
      refine s_name ?_
      have zl : z.length = (wiresN ins gs).length := st.len
      have stm : StOk (wiresN ins (gs ++ [(("onemore" : Str), r)])).length (z ++ ⟨#[c]⟩) := by
        rw [wires_more, List.length_append]
        exact st_more st hc
      repeat walk_at "vc"
      refine ⟨_, _, rfl, rfl, by show _ + 1 ≤ _; omega, ?_⟩
      repeat walk_at "vc"
      refine ⟨mo, l2, p7, ins, _, _, _, rfl, NM9.same S10, okm, ndm, stm, fun l11 H11 S11 nl11 h11 => ?_⟩
      rw [asked_self] at h11
      have am := ask_more (r := r) ok c1 (F := sgn (wiresN ins gs) z) (G := sgn (wiresN ins (gs ++ [(("onemore" : Str), r)])) (z ++ ⟨#[c]⟩)) (fun n hn => by rw [wires_more]; exact sgn_more st hn)
      have al := ask_len (sgn (wiresN ins (gs ++ [(("onemore" : Str), r)])) (z ++ ⟨#[c]⟩)) (gs ++ [(("onemore" : Str), r)])
      rw [List.length_append] at al
      have al : (askF (sgn (wiresN ins (gs ++ [(("onemore" : Str), r)])) (z ++ ⟨#[c]⟩)) (gs ++ [(("onemore" : Str), r)])).length ≤ gs.length + 1 := al
      generalize askF (sgn (wiresN ins (gs ++ [(("onemore" : Str), r)])) (z ++ ⟨#[c]⟩)) (gs ++ [(("onemore" : Str), r)]) = as at h11 am al
      repeat walk_at "vc"
      refine i_comp ?_
      repeat walk_at "vc"
      refine ⟨l11, rfl, ⟨_, SqL.of h11⟩, fun L hL => ?_⟩
      refine comp_listF (xs := as.map V.str) (fun m H' ys => Same H11 H' ∧ H' L = some (.lst ys) ∧ ys = ((as.take m).filter (fun z : Str => decide (z ≠ "onemore"))).map V.str) ⟨fresh_same hL, upd_same, rfl⟩ (fun m H' ys p => ⟨p.2.1, SqL.of (p.1 _ _ h11)⟩) (fun m x H' ys e p => ?_) (fun H12 ys p => ?_)
      · obtain ⟨Sm, hd', rfl⟩ := p
        have hm' : m < (as.map V.str).length := (List.getElem?_eq_some_iff.mp e).1
        rw [List.getElem?_map] at e
        obtain ⟨n, hn, rfl⟩ : ∃ n, as[m]? = some n ∧ V.str n = x := by
          cases h : as[m]? with
          | none => rw [h] at e; cases e
          | some n => rw [h] at e; exact ⟨n, rfl, Option.some.inj e⟩
        refine s_name ⟨by repeat' (first | exact trivial | refine ⟨rfl, ?_⟩), ?_⟩
        repeat walk_at "vc"
        have tk := count_take hn (fun z : Str => decide (z ≠ "onemore"))
        have fl : ((as.take m).filter (fun z : Str => decide (z ≠ "onemore"))).length ≤ as.length := Nat.le_trans (List.length_filter_le _ _) (by rw [List.length_take]; omega)
        by_cases c2 : n = "onemore"
        · refine ifF (by rw [c2]; decide +kernel) ?_
          rw [if_neg (by simp [c2])] at tk
          exact ⟨(as.map V.str).length - (m + 1), by omega, rfl, by omega, Sm, hd', by rw [tk]⟩
        · refine ifT (by simp [c2]) ?_
          rw [if_pos (by simp [c2])] at tk
          refine i_var rfl ?_
          refine NextC.mk hd' hm' (by rw [List.length_map]; omega) ⟨same_upd Sm hL, upd_same, ?_⟩
          rw [tk, List.map_append]
          rfl
      obtain ⟨S12, hL12, rfl⟩ := p
      rw [List.length_map, List.take_length, am] at hL12
      have S1012 := S10.trans (S11.trans S12)
      repeat walk_at "vc"
      refine ⟨a, li, lg, ins, gvs, gs, z, rfl, NA9.same S1012, ok, ndp, st, fun l13 H13 S13 nl13 h13 => ?_⟩
      rw [asked_self] at h13
      refine ⟨L, l13, _, _, fun _ => true, rfl, rfl, SqL.of (S13 _ _ hL12), SqL.of h13, eqd_str_lists _, ?_⟩
      refine ⟨_, rfl, ifF (by simp) ?_⟩
      refine s_next ?_
      exact ⟨⟨_, _, rfl⟩, S1012.trans S13⟩
    · obtain ⟨⟨x4, x5, rfl⟩, S10⟩ := pv
      repeat walk_at "vc"
      refine ⟨mo, l2, p7, ins, _, _, rfl, NM9.same S10, okm, fun H11 S11 => ?_⟩
      rw [decide_eq_true nm.2]
      refine i_c ⟨_, _, rfl, rfl, ?_⟩
      exact k H11 (kp9.trans (Kp.of kp9.dk (S10.trans S11)))
theorem sc_law : FnScope ["script", "deck", "k", "net", "other", "names"] ["script"] (defScope (top 47)) := ⟨rfl, rfl, rfl, by decide +kernel, rfl, by decide +kernel, by decide +kernel⟩
theorem ok_law7 {f : Addr} {fd : FuncData} (Fu : Fun K "law" "law" (top 47) f fd) (T : Txt K mg TT) (f_law_deck : Fn P w K mg base "_law_deck" ["script"] 1 (spDeck K)) (f_law_net : Fn P w K mg base "_law_net" ["deck"] 12 spNet) (f_law_other : Fn P w K mg base "_law_other" ["deck", "net"] 11 spOther) (f_is_net : Fn P w K mg base "is_net" ["thing"] 11 spIsNet) (f_law_walked : Fn P w K mg base "_law_walked" ["deck", "net", "other", "names"] 15 spWalk7) (f_law_more : Fn P w K mg base "_law_more" ["deck", "net"] 14 spMore) :
    FnOk P w K mg base CX0 16 f fd ["script"] (spLaw K) := by
  have S := sc_law
  refine Fu.ok S (fun vs H Q E h => ?_) (fun cdv A outer s H vs Q E hr h => ?_)
  · obtain ⟨a, ns, rfl, _⟩ := h
    rfl
  · obtain ⟨sc, cells, rfl, hS, hlen, k⟩ := h
    refine' ⟨?_, ?bb, ?_⟩
    case bb =>
      refine' pss_cons ?s1 ?r1
      case s1 =>
        refine' ps_set (i := 1) ?n ?r ?l ?e ?s ?f
        case n => exact S.nd
        case r => rfl
        case l => first | exact Or.inl rfl | exact Or.inr rfl
        case s => rfl
        case f => first | exact Or.inl rfl | exact Or.inr rfl
        case e => exact (pe_fn f_law_deck (hr.mono (by first | decide | omega)) (by rfl) (pa_cons (pv 0) pa_nil))
      case r1 =>
        with_reducible refine' pss_cons ?s3 ?r3
        case s3 =>
          refine' ps_for PassesOwn.never rfl ?i4 ?g4 ?b4 ?h4
          case h4 => intro _; rfl
          case i4 => exact (pi_range1 (by rfl) T.n_range (pa_cons pe_int pa_nil))
          case g4 => exact (pg_name (i := 2) S.nd rfl (by first | exact Or.inl rfl | exact Or.inr rfl))
          case b4 =>
            with_reducible refine' pss_cons ?s5 ?r5
            case s5 =>
              refine' ps_set (i := 3) ?n ?r ?l ?e ?s ?f
              case n => exact S.nd
              case r => rfl
              case l => first | exact Or.inl rfl | exact Or.inr rfl
              case s => rfl
              case f => first | exact Or.inl rfl | exact Or.inr rfl
              case e => exact (pe_fn f_law_net (hr.mono (by first | decide | omega)) (by rfl) (pa_cons (pv 1) pa_nil))
            case r5 =>
              with_reducible refine' pss_cons ?s7 ?r7
              case s7 =>
                exact (ps_asg (pe_fn f_law_other (hr.mono (by first | decide | omega)) (by rfl) (pa_cons (pv 1) (pa_cons (pv 3) pa_nil))) (pg_tupL rfl (pgs_cons (pg_name (i := 4) S.nd rfl (by first | exact Or.inl rfl | exact Or.inr rfl)) (pgs_cons (pg_name (i := 5) S.nd rfl (by first | exact Or.inl rfl | exact Or.inr rfl)) pgs_nil))))
              case r7 =>
                with_reducible refine' pss_one ?s9
                case s9 =>
                  with_reducible refine' ps_if ?c10 ?a10 ?o10
                  case c10 => exact (PW.pt (pw_or (pt_cmpR op_notB (pe_fn f_is_net (hr.mono (by first | decide | omega)) (by rfl) (pa_cons (pv 4) pa_nil)) pe_bl rfl) (pw_or (pt_not (pt_val (pe_fn f_law_walked (hr.mono (by first | decide | omega)) (by rfl) (pa_cons (pv 1) (pa_cons (pv 3) (pa_cons (pv 4) (pa_cons (pv 5) pa_nil))))))) (pw_or1 (pt_not (pt_val (pe_fn f_law_more (hr.mono (by first | decide | omega)) (by rfl) (pa_cons (pv 1) (pa_cons (pv 3) pa_nil)))))))))
                  case a10 =>
                    with_reducible refine' pss_one ?s11
                    case s11 =>
                      exact (ps_ret pe_bl)
                  case o10 =>
                    exact pss_nil
        case r3 =>
          with_reducible refine' pss_one ?s13
          case s13 =>
            exact (ps_ret pe_bl)
    try dsimp only [cxOf, Cx.nox, Cx.wish]
    rw [show L2.start ["script", "deck", "k", "net", "other", "names"] [V.ref sc] = [some (.ref sc), none, none, none, none, none] from rfl]
    repeat walk_at "vc"
    refine ⟨sc, cells, rfl, hS, hlen, fun D H1 S1 DA1 => ?_⟩
    repeat walk_at "vc"
    refine ⟨by decide, by decide, ?_⟩
    refine for_range (n := 5) (fun i σ H' => (∃ x2 x3 x4 x5, σ = [some (.ref sc), some (.ref D.d), x2, x3, x4, x5]) ∧ D.At H') ⟨⟨_, _, _, _, rfl⟩, DA1⟩ (fun i σ H' hi pv => ?_) (fun σ H' pv => ?_)
    · obtain ⟨⟨x2, x3, x4, x5, rfl⟩, DA⟩ := pv
      refine s_name ?_
      repeat walk_at "vc"
      refine ⟨D, rfl, DA, fun a li lg ins gvs gs H2 NA nq k2 => ?_⟩
      repeat walk_at "vc"
      refine ⟨D, a, li, lg, ins, gvs, gs, rfl, k2.dk, NA, nq, fun l a' li' lg' ins' gvs' gs' nd kvs π H3 k3 hl NA' o hnd nm => ?_⟩
      have NA3 := NA.kp k2.dk k3
      refine ⟨l, _, rfl, SqL.of hl, rfl, ?_⟩
      refine ⟨_, _, rfl, s_name ⟨_, _, rfl, s_name ⟨rfl, ?_⟩⟩⟩
      have nq' := o.net nq
      have tw : Two7 H3 a li lg ins gvs gs a' li' lg' ins' gvs' gs' nd kvs π := ⟨NA3, NA', nq, o, hnd, nm⟩
      repeat walk_at "vc"
      refine ⟨a', li', lg', ins', gvs', gs', rfl, NA', nq'.1, fun H4 S4 => ?_⟩
      rw [decide_eq_true nq'.2]
      refine i_c ⟨_, _, rfl, rfl, ?_⟩
      refine ⟨_, rfl, ifF rfl ?_⟩
      have k4 : Kp D H3 H4 := Kp.of k3.dk S4
      repeat walk_at "vc"
      refine ⟨D, a, li, lg, ins, gvs, gs, a', li', lg', ins', gvs', gs', nd, kvs, π, rfl, k4.dk, tw.same S4, fun H5 k5 => ?_⟩
      refine ⟨_, rfl, iteF ?_⟩
      repeat walk_at "vc"
      refine ⟨D, a, li, lg, ins, gvs, gs, rfl, k5.dk, (NA3.same S4).kp k4.dk k5, nq, fun H6 k6 => ?_⟩
      refine ⟨_, rfl, iteF ?_⟩
      refine s_next ?_
      exact ⟨⟨_, _, _, _, rfl⟩, k6.dk⟩
    · obtain ⟨⟨x2, x3, x4, x5, rfl⟩, DA⟩ := pv
      repeat walk_at "vc"
      exact k H'
end
end K2
set_option Elab.async false
set_option linter.all false
set_option maxRecDepth 100000
set_option maxHeartbeats 4000000
namespace K2
open PySem L2 PySem.Spec PyProof.Rows
theorem len_1 {A : Type} {us : List A} (h : us.length = 1) : ∃ a0, us = [a0] := by
  match us, h with
  | [a0], _ => exact ⟨_, rfl⟩
theorem len_2 {A : Type} {us : List A} (h : us.length = 2) : ∃ a0 a1, us = [a0, a1] := by
  match us, h with
  | [a0, a1], _ => exact ⟨_, _, rfl⟩
theorem len_3 {A : Type} {us : List A} (h : us.length = 3) : ∃ a0 a1 a2, us = [a0, a1, a2] := by
  match us, h with
  | [a0, a1, a2], _ => exact ⟨_, _, _, rfl⟩
theorem len_4 {A : Type} {us : List A} (h : us.length = 4) : ∃ a0 a1 a2 a3, us = [a0, a1, a2, a3] := by
  match us, h with
  | [a0, a1, a2, a3], _ => exact ⟨_, _, _, _, rfl⟩
theorem len_5 {A : Type} {us : List A} (h : us.length = 5) : ∃ a0 a1 a2 a3 a4, us = [a0, a1, a2, a3, a4] := by
  match us, h with
  | [a0, a1, a2, a3, a4], _ => exact ⟨_, _, _, _, _, rfl⟩
theorem len_6 {A : Type} {us : List A} (h : us.length = 6) : ∃ a0 a1 a2 a3 a4 a5, us = [a0, a1, a2, a3, a4, a5] := by
  match us, h with
  | [a0, a1, a2, a3, a4, a5], _ => exact ⟨_, _, _, _, _, _, rfl⟩
theorem all_mk {l : PySem.W.OpenLaw} {w : World} {K : PySem.W.Frag} {h : Heap} {mg : Str → Option Value} {fa TT f0 f1 f2 f3 f4 f5 f6 f7 f8 f9 f10 f11 f12 f13 f14 f15 f16 f17 f18 f19 f20 f21 f22 f23 f24 f25 f26 f27 f28 f29 f30 f31 f32 f33 f34 : Addr} (X : K.In h) (G : h.Ns mainGlobals mg) (hfa : mg "law" = some (.ref fa))
    {od0 an0 od1 an1 od2 an2 od3 an3 od4 an4 od5 an5 od6 an6 od7 an7 od8 an8 od9 an9 od10 an10 od11 an11 od12 an12 od13 an13 od14 an14 od15 an15 od16 an16 od17 an17 od18 an18 od19 an19 od20 an20 od21 an21 od22 an22 od23 an23 od24 an24 od25 an25 od26 an26 od27 an27 od28 an28 od29 an29 od30 an30 od31 an31 od32 an32 od33 an33 od34 an34 : Option Addr} {sl0 sl1 sl2 sl3 sl4 sl5 sl6 sl7 sl8 sl9 sl10 sl11 sl12 sl13 sl14 sl15 sl16 sl17 sl18 sl19 sl20 sl21 sl22 sl23 sl24 sl25 sl26 sl27 sl28 sl29 sl30 sl31 sl32 sl33 sl34 : Array (Option Value)} {oc0 kV0 dc0 pm0 cd0 ct0 oc1 kV1 dc1 pm1 cd1 ct1 oc2 kV2 dc2 pm2 cd2 ct2 oc3 kV3 dc3 pm3 cd3 ct3 oc4 kV4 dc4 pm4 cd4 ct4 oc5 kV5 dc5 pm5 cd5 ct5 oc6 kV6 dc6 pm6 cd6 ct6 oc7 kV7 dc7 pm7 cd7 ct7 oc8 kV8 dc8 pm8 cd8 ct8 oc9 kV9 dc9 pm9 cd9 ct9 oc10 kV10 dc10 pm10 cd10 ct10 oc11 kV11 dc11 pm11 cd11 ct11 oc12 kV12 dc12 pm12 cd12 ct12 oc13 kV13 dc13 pm13 cd13 ct13 oc14 kV14 dc14 pm14 cd14 ct14 oc15 kV15 dc15 pm15 cd15 ct15 oc16 kV16 dc16 pm16 cd16 ct16 oc17 kV17 dc17 pm17 cd17 ct17 oc18 kV18 dc18 pm18 cd18 ct18 oc19 kV19 dc19 pm19 cd19 ct19 oc20 kV20 dc20 pm20 cd20 ct20 oc21 kV21 dc21 pm21 cd21 ct21 oc22 kV22 dc22 pm22 cd22 ct22 oc23 kV23 dc23 pm23 cd23 ct23 oc24 kV24 dc24 pm24 cd24 ct24 oc25 kV25 dc25 pm25 cd25 ct25 oc26 kV26 dc26 pm26 cd26 ct26 oc27 kV27 dc27 pm27 cd27 ct27 oc28 kV28 dc28 pm28 cd28 ct28 oc29 kV29 dc29 pm29 cd29 ct29 oc30 kV30 dc30 pm30 cd30 ct30 oc31 kV31 dc31 pm31 cd31 ct31 oc32 kV32 dc32 pm32 cd32 ct32 oc33 kV33 dc33 pm33 cd33 ct33 oc34 kV34 dc34 pm34 cd34 ct34 : Value}
    (aT : PySem.W.nsIn K mainGlobals "PARTS_OF_RULE" = some (some (.ref TT))) (tab : tabAt K TT [("wire", .flat (.int 2)), ("not", .flat (.int 2)), ("and", .flat (.int 3)), ("or", .flat (.int 3))])
    (a0 : PySem.W.nsIn K mainGlobals "is_name" = some (some (.ref f0))) (l0 : K.lookup f0 = some ⟨oc0, od0, .func (PySem.W.fnOf "is_name" "is_name" (defArgs (top 12)) (defBody (top 12)) (defScope (top 12)) .none kV0 dc0 pm0 an0 cd0 ct0), sl0⟩) (c0 : PySem.W.codeIn K cd0 "is_name" = true) (k0 : PySem.W.keepIn K (.ref f0) = true)
    (a1 : PySem.W.nsIn K mainGlobals "is_rule" = some (some (.ref f1))) (l1 : K.lookup f1 = some ⟨oc1, od1, .func (PySem.W.fnOf "is_rule" "is_rule" (defArgs (top 13)) (defBody (top 13)) (defScope (top 13)) .none kV1 dc1 pm1 an1 cd1 ct1), sl1⟩) (c1 : PySem.W.codeIn K cd1 "is_rule" = true) (k1 : PySem.W.keepIn K (.ref f1) = true)
    (a2 : PySem.W.nsIn K mainGlobals "is_pair" = some (some (.ref f2))) (l2 : K.lookup f2 = some ⟨oc2, od2, .func (PySem.W.fnOf "is_pair" "is_pair" (defArgs (top 14)) (defBody (top 14)) (defScope (top 14)) .none kV2 dc2 pm2 an2 cd2 ct2), sl2⟩) (c2 : PySem.W.codeIn K cd2 "is_pair" = true) (k2 : PySem.W.keepIn K (.ref f2) = true)
    (a3 : PySem.W.nsIn K mainGlobals "is_row" = some (some (.ref f3))) (l3 : K.lookup f3 = some ⟨oc3, od3, .func (PySem.W.fnOf "is_row" "is_row" (defArgs (top 15)) (defBody (top 15)) (defScope (top 15)) .none kV3 dc3 pm3 an3 cd3 ct3), sl3⟩) (c3 : PySem.W.codeIn K cd3 "is_row" = true) (k3 : PySem.W.keepIn K (.ref f3) = true)
    (a4 : PySem.W.nsIn K mainGlobals "are_unlike_names" = some (some (.ref f4))) (l4 : K.lookup f4 = some ⟨oc4, od4, .func (PySem.W.fnOf "are_unlike_names" "are_unlike_names" (defArgs (top 16)) (defBody (top 16)) (defScope (top 16)) .none kV4 dc4 pm4 an4 cd4 ct4), sl4⟩) (c4 : PySem.W.codeIn K cd4 "are_unlike_names" = true) (k4 : PySem.W.keepIn K (.ref f4) = true)
    (a5 : PySem.W.nsIn K mainGlobals "is_net" = some (some (.ref f5))) (l5 : K.lookup f5 = some ⟨oc5, od5, .func (PySem.W.fnOf "is_net" "is_net" (defArgs (top 17)) (defBody (top 17)) (defScope (top 17)) .none kV5 dc5 pm5 an5 cd5 ct5), sl5⟩) (c5 : PySem.W.codeIn K cd5 "is_net" = true) (k5 : PySem.W.keepIn K (.ref f5) = true)
    (a6 : PySem.W.nsIn K mainGlobals "gates_of" = some (some (.ref f6))) (l6 : K.lookup f6 = some ⟨oc6, od6, .func (PySem.W.fnOf "gates_of" "gates_of" (defArgs (top 18)) (defBody (top 18)) (defScope (top 18)) .none kV6 dc6 pm6 an6 cd6 ct6), sl6⟩) (c6 : PySem.W.codeIn K cd6 "gates_of" = true) (k6 : PySem.W.keepIn K (.ref f6) = true)
    (a7 : PySem.W.nsIn K mainGlobals "wires_of" = some (some (.ref f7))) (l7 : K.lookup f7 = some ⟨oc7, od7, .func (PySem.W.fnOf "wires_of" "wires_of" (defArgs (top 19)) (defBody (top 19)) (defScope (top 19)) .none kV7 dc7 pm7 an7 cd7 ct7), sl7⟩) (c7 : PySem.W.codeIn K cd7 "wires_of" = true) (k7 : PySem.W.keepIn K (.ref f7) = true)
    (a8 : PySem.W.nsIn K mainGlobals "is_standing" = some (some (.ref f8))) (l8 : K.lookup f8 = some ⟨oc8, od8, .func (PySem.W.fnOf "is_standing" "is_standing" (defArgs (top 20)) (defBody (top 20)) (defScope (top 20)) .none kV8 dc8 pm8 an8 cd8 ct8), sl8⟩) (c8 : PySem.W.codeIn K cd8 "is_standing" = true) (k8 : PySem.W.keepIn K (.ref f8) = true)
    (a9 : PySem.W.nsIn K mainGlobals "check_standing" = some (some (.ref f9))) (l9 : K.lookup f9 = some ⟨oc9, od9, .func (PySem.W.fnOf "check_standing" "check_standing" (defArgs (top 21)) (defBody (top 21)) (defScope (top 21)) .none kV9 dc9 pm9 an9 cd9 ct9), sl9⟩) (c9 : PySem.W.codeIn K cd9 "check_standing" = true) (k9 : PySem.W.keepIn K (.ref f9) = true)
    (a10 : PySem.W.nsIn K mainGlobals "rule_holds" = some (some (.ref f10))) (l10 : K.lookup f10 = some ⟨oc10, od10, .func (PySem.W.fnOf "rule_holds" "rule_holds" (defArgs (top 22)) (defBody (top 22)) (defScope (top 22)) .none kV10 dc10 pm10 an10 cd10 ct10), sl10⟩) (c10 : PySem.W.codeIn K cd10 "rule_holds" = true) (k10 : PySem.W.keepIn K (.ref f10) = true)
    (a11 : PySem.W.nsIn K mainGlobals "rule_worth" = some (some (.ref f11))) (l11 : K.lookup f11 = some ⟨oc11, od11, .func (PySem.W.fnOf "rule_worth" "rule_worth" (defArgs (top 23)) (defBody (top 23)) (defScope (top 23)) .none kV11 dc11 pm11 an11 cd11 ct11), sl11⟩) (c11 : PySem.W.codeIn K cd11 "rule_worth" = true) (k11 : PySem.W.keepIn K (.ref f11) = true)
    (a12 : PySem.W.nsIn K mainGlobals "signs_in" = some (some (.ref f12))) (l12 : K.lookup f12 = some ⟨oc12, od12, .func (PySem.W.fnOf "signs_in" "signs_in" (defArgs (top 24)) (defBody (top 24)) (defScope (top 24)) .none kV12 dc12 pm12 an12 cd12 ct12), sl12⟩) (c12 : PySem.W.codeIn K cd12 "signs_in" = true) (k12 : PySem.W.keepIn K (.ref f12) = true)
    (a13 : PySem.W.nsIn K mainGlobals "worth_of" = some (some (.ref f13))) (l13 : K.lookup f13 = some ⟨oc13, od13, .func (PySem.W.fnOf "worth_of" "worth_of" (defArgs (top 25)) (defBody (top 25)) (defScope (top 25)) .none kV13 dc13 pm13 an13 cd13 ct13), sl13⟩) (c13 : PySem.W.codeIn K cd13 "worth_of" = true) (k13 : PySem.W.keepIn K (.ref f13) = true)
    (a14 : PySem.W.nsIn K mainGlobals "turned_at" = some (some (.ref f14))) (l14 : K.lookup f14 = some ⟨oc14, od14, .func (PySem.W.fnOf "turned_at" "turned_at" (defArgs (top 26)) (defBody (top 26)) (defScope (top 26)) .none kV14 dc14 pm14 an14 cd14 ct14), sl14⟩) (c14 : PySem.W.codeIn K cd14 "turned_at" = true) (k14 : PySem.W.keepIn K (.ref f14) = true)
    (a15 : PySem.W.nsIn K mainGlobals "steps_from" = some (some (.ref f15))) (l15 : K.lookup f15 = some ⟨oc15, od15, .func (PySem.W.fnOf "steps_from" "steps_from" (defArgs (top 27)) (defBody (top 27)) (defScope (top 27)) .none kV15 dc15 pm15 an15 cd15 ct15), sl15⟩) (c15 : PySem.W.codeIn K cd15 "steps_from" = true) (k15 : PySem.W.keepIn K (.ref f15) = true)
    (a16 : PySem.W.nsIn K mainGlobals "asked_gates" = some (some (.ref f16))) (l16 : K.lookup f16 = some ⟨oc16, od16, .func (PySem.W.fnOf "asked_gates" "asked_gates" (defArgs (top 28)) (defBody (top 28)) (defScope (top 28)) .none kV16 dc16 pm16 an16 cd16 ct16), sl16⟩) (c16 : PySem.W.codeIn K cd16 "asked_gates" = true) (k16 : PySem.W.keepIn K (.ref f16) = true)
    (a17 : PySem.W.nsIn K mainGlobals "switch_gate" = some (some (.ref f17))) (l17 : K.lookup f17 = some ⟨oc17, od17, .func (PySem.W.fnOf "switch_gate" "switch_gate" (defArgs (top 29)) (defBody (top 29)) (defScope (top 29)) .none kV17 dc17 pm17 an17 cd17 ct17), sl17⟩) (c17 : PySem.W.codeIn K cd17 "switch_gate" = true) (k17 : PySem.W.keepIn K (.ref f17) = true)
    (a18 : PySem.W.nsIn K mainGlobals "turn_input" = some (some (.ref f18))) (l18 : K.lookup f18 = some ⟨oc18, od18, .func (PySem.W.fnOf "turn_input" "turn_input" (defArgs (top 30)) (defBody (top 30)) (defScope (top 30)) .none kV18 dc18 pm18 an18 cd18 ct18), sl18⟩) (c18 : PySem.W.codeIn K cd18 "turn_input" = true) (k18 : PySem.W.keepIn K (.ref f18) = true)
    (a19 : PySem.W.nsIn K mainGlobals "_law_deck" = some (some (.ref f19))) (l19 : K.lookup f19 = some ⟨oc19, od19, .func (PySem.W.fnOf "_law_deck" "_law_deck" (defArgs (top 32)) (defBody (top 32)) (defScope (top 32)) .none kV19 dc19 pm19 an19 cd19 ct19), sl19⟩) (c19 : PySem.W.codeIn K cd19 "_law_deck" = true) (k19 : PySem.W.keepIn K (.ref f19) = true)
    (a20 : PySem.W.nsIn K mainGlobals "_law_draw" = some (some (.ref f20))) (l20 : K.lookup f20 = some ⟨oc20, od20, .func (PySem.W.fnOf "_law_draw" "_law_draw" (defArgs (top 33)) (defBody (top 33)) (defScope (top 33)) .none kV20 dc20 pm20 an20 cd20 ct20), sl20⟩) (c20 : PySem.W.codeIn K cd20 "_law_draw" = true) (k20 : PySem.W.keepIn K (.ref f20) = true)
    (a21 : PySem.W.nsIn K mainGlobals "_law_rule" = some (some (.ref f21))) (l21 : K.lookup f21 = some ⟨oc21, od21, .func (PySem.W.fnOf "_law_rule" "_law_rule" (defArgs (top 34)) (defBody (top 34)) (defScope (top 34)) .none kV21 dc21 pm21 an21 cd21 ct21), sl21⟩) (c21 : PySem.W.codeIn K cd21 "_law_rule" = true) (k21 : PySem.W.keepIn K (.ref f21) = true)
    (a22 : PySem.W.nsIn K mainGlobals "_law_names" = some (some (.ref f22))) (l22 : K.lookup f22 = some ⟨oc22, od22, .func (PySem.W.fnOf "_law_names" "_law_names" (defArgs (top 35)) (defBody (top 35)) (defScope (top 35)) .none kV22 dc22 pm22 an22 cd22 ct22), sl22⟩) (c22 : PySem.W.codeIn K cd22 "_law_names" = true) (k22 : PySem.W.keepIn K (.ref f22) = true)
    (a23 : PySem.W.nsIn K mainGlobals "_law_held" = some (some (.ref f23))) (l23 : K.lookup f23 = some ⟨oc23, od23, .func (PySem.W.fnOf "_law_held" "_law_held" (defArgs (top 36)) (defBody (top 36)) (defScope (top 36)) .none kV23 dc23 pm23 an23 cd23 ct23), sl23⟩) (c23 : PySem.W.codeIn K cd23 "_law_held" = true) (k23 : PySem.W.keepIn K (.ref f23) = true)
    (a24 : PySem.W.nsIn K mainGlobals "_law_known" = some (some (.ref f24))) (l24 : K.lookup f24 = some ⟨oc24, od24, .func (PySem.W.fnOf "_law_known" "_law_known" (defArgs (top 37)) (defBody (top 37)) (defScope (top 37)) .none kV24 dc24 pm24 an24 cd24 ct24), sl24⟩) (c24 : PySem.W.codeIn K cd24 "_law_known" = true) (k24 : PySem.W.keepIn K (.ref f24) = true)
    (a25 : PySem.W.nsIn K mainGlobals "_law_net" = some (some (.ref f25))) (l25 : K.lookup f25 = some ⟨oc25, od25, .func (PySem.W.fnOf "_law_net" "_law_net" (defArgs (top 38)) (defBody (top 38)) (defScope (top 38)) .none kV25 dc25 pm25 an25 cd25 ct25), sl25⟩) (c25 : PySem.W.codeIn K cd25 "_law_net" = true) (k25 : PySem.W.keepIn K (.ref f25) = true)
    (a26 : PySem.W.nsIn K mainGlobals "_law_standing" = some (some (.ref f26))) (l26 : K.lookup f26 = some ⟨oc26, od26, .func (PySem.W.fnOf "_law_standing" "_law_standing" (defArgs (top 39)) (defBody (top 39)) (defScope (top 39)) .none kV26 dc26 pm26 an26 cd26 ct26), sl26⟩) (c26 : PySem.W.codeIn K cd26 "_law_standing" = true) (k26 : PySem.W.keepIn K (.ref f26) = true)
    (a27 : PySem.W.nsIn K mainGlobals "_law_renamed" = some (some (.ref f27))) (l27 : K.lookup f27 = some ⟨oc27, od27, .func (PySem.W.fnOf "_law_renamed" "_law_renamed" (defArgs (top 40)) (defBody (top 40)) (defScope (top 40)) .none kV27 dc27 pm27 an27 cd27 ct27), sl27⟩) (c27 : PySem.W.codeIn K cd27 "_law_renamed" = true) (k27 : PySem.W.keepIn K (.ref f27) = true)
    (a28 : PySem.W.nsIn K mainGlobals "_law_shuffled" = some (some (.ref f28))) (l28 : K.lookup f28 = some ⟨oc28, od28, .func (PySem.W.fnOf "_law_shuffled" "_law_shuffled" (defArgs (top 41)) (defBody (top 41)) (defScope (top 41)) .none kV28 dc28 pm28 an28 cd28 ct28), sl28⟩) (c28 : PySem.W.codeIn K cd28 "_law_shuffled" = true) (k28 : PySem.W.keepIn K (.ref f28) = true)
    (a29 : PySem.W.nsIn K mainGlobals "_law_other" = some (some (.ref f29))) (l29 : K.lookup f29 = some ⟨oc29, od29, .func (PySem.W.fnOf "_law_other" "_law_other" (defArgs (top 42)) (defBody (top 42)) (defScope (top 42)) .none kV29 dc29 pm29 an29 cd29 ct29), sl29⟩) (c29 : PySem.W.codeIn K cd29 "_law_other" = true) (k29 : PySem.W.keepIn K (.ref f29) = true)
    (a30 : PySem.W.nsIn K mainGlobals "_law_moved" = some (some (.ref f30))) (l30 : K.lookup f30 = some ⟨oc30, od30, .func (PySem.W.fnOf "_law_moved" "_law_moved" (defArgs (top 43)) (defBody (top 43)) (defScope (top 43)) .none kV30 dc30 pm30 an30 cd30 ct30), sl30⟩) (c30 : PySem.W.codeIn K cd30 "_law_moved" = true) (k30 : PySem.W.keepIn K (.ref f30) = true)
    (a31 : PySem.W.nsIn K mainGlobals "_law_same" = some (some (.ref f31))) (l31 : K.lookup f31 = some ⟨oc31, od31, .func (PySem.W.fnOf "_law_same" "_law_same" (defArgs (top 44)) (defBody (top 44)) (defScope (top 44)) .none kV31 dc31 pm31 an31 cd31 ct31), sl31⟩) (c31 : PySem.W.codeIn K cd31 "_law_same" = true) (k31 : PySem.W.keepIn K (.ref f31) = true)
    (a32 : PySem.W.nsIn K mainGlobals "_law_walked" = some (some (.ref f32))) (l32 : K.lookup f32 = some ⟨oc32, od32, .func (PySem.W.fnOf "_law_walked" "_law_walked" (defArgs (top 45)) (defBody (top 45)) (defScope (top 45)) .none kV32 dc32 pm32 an32 cd32 ct32), sl32⟩) (c32 : PySem.W.codeIn K cd32 "_law_walked" = true) (k32 : PySem.W.keepIn K (.ref f32) = true)
    (a33 : PySem.W.nsIn K mainGlobals "_law_more" = some (some (.ref f33))) (l33 : K.lookup f33 = some ⟨oc33, od33, .func (PySem.W.fnOf "_law_more" "_law_more" (defArgs (top 46)) (defBody (top 46)) (defScope (top 46)) .none kV33 dc33 pm33 an33 cd33 ct33), sl33⟩) (c33 : PySem.W.codeIn K cd33 "_law_more" = true) (k33 : PySem.W.keepIn K (.ref f33) = true)
    (a34 : PySem.W.nsIn K mainGlobals "law" = some (some (.ref f34))) (l34 : K.lookup f34 = some ⟨oc34, od34, .func (PySem.W.fnOf "law" "law" (defArgs (top 47)) (defBody (top 47)) (defScope (top 47)) .none kV34 dc34 pm34 an34 cd34 ct34), sl34⟩) (c34 : PySem.W.codeIn K cd34 "law" = true) (k34 : PySem.W.keepIn K (.ref f34) = true)
    {tk0 tk1 tk2 tk3 tk4 : Tok}
    {TU : Addr}
    (cn0 : PySem.W.nsIn K mainGlobals "LETTERS" = some (some (.str "abcdefghijklmnopqrstuvwxyz" tk0)))
    (cn1 : PySem.W.nsIn K mainGlobals "MOST_LETTERS" = some (some (.int 8 tk1)))
    (cn2 : PySem.W.nsIn K mainGlobals "MOST_RULES_WITHIN" = some (some (.int 10 tk2)))
    (cn3 : PySem.W.nsIn K mainGlobals "MOST_INPUTS" = some (some (.int 4 tk3)))
    (cn4 : PySem.W.nsIn K mainGlobals "MOST_GATES" = some (some (.int 7 tk4)))
    (aU : PySem.W.nsIn K mainGlobals "TURNED" = some (some (.ref TU)))
    (tabU : tabAt K TU [("0", .flat (.str "1")), ("1", .flat (.str "0"))])
    (z0 : PySem.W.nsIn K mainGlobals "len" = some none)
    (z1 : PySem.W.nsIn K mainGlobals "range" = some none)
    (z2 : PySem.W.nsIn K mainGlobals "max" = some none)
    (z3 : PySem.W.nsIn K mainGlobals "min" = some none)
    (z4 : PySem.W.nsIn K mainGlobals "int" = some none)
    (z5 : PySem.W.nsIn K mainGlobals "list" = some none)
    (z6 : PySem.W.nsIn K mainGlobals "str" = some none)
    (z7 : PySem.W.nsIn K mainGlobals "isinstance" = some none)
    (z8 : PySem.W.nsIn K mainGlobals "all" = some none)
    (z9 : PySem.W.nsIn K mainGlobals "dict" = some none)
    (z10 : PySem.W.nsIn K mainGlobals "zip" = some none)
    (z11 : PySem.W.nsIn K mainGlobals "enumerate" = some none)
    (z12 : PySem.W.nsIn K mainGlobals "abs" = some none)
    (z13 : PySem.W.nsIn K mainGlobals "tuple" = some none)
    (z14 : PySem.W.nsIn K mainGlobals "set" = some none)
    (z15 : PySem.W.nsIn K mainGlobals "sorted" = some none)
    : ∃ fd : FuncData, (∀ (s : Shared) (v : Value), BindsTo s fd ⟨[v], []⟩ [("script", v)]) ∧ ∀ base : Heap, K.In base → base.Ns mainGlobals mg → FnOk l.prog w K mg base CX0 16 fa fd ["script"] (spLaw K) := by
  have e := hfa.symm.trans (PySem.W.mg_of X G a34)
  cases e
  have T : Txt K mg TT := ⟨PySem.W.mg_none_of X G z0, PySem.W.mg_none_of X G z1, PySem.W.mg_none_of X G z2, PySem.W.mg_none_of X G z3, PySem.W.mg_none_of X G z4, PySem.W.mg_none_of X G z5, PySem.W.mg_none_of X G z6, PySem.W.mg_none_of X G z7, PySem.W.mg_none_of X G z8, PySem.W.mg_none_of X G z9, PySem.W.mg_none_of X G z10, PySem.W.mg_none_of X G z11, PySem.W.mg_none_of X G z12, PySem.W.mg_none_of X G z13, PySem.W.mg_none_of X G z14, PySem.W.mg_none_of X G z15, ⟨_, PySem.W.mg_of X G cn0⟩, ⟨_, PySem.W.mg_of X G cn1⟩, ⟨_, PySem.W.mg_of X G cn2⟩, ⟨_, PySem.W.mg_of X G cn3⟩, ⟨_, PySem.W.mg_of X G cn4⟩, PySem.W.mg_of X G aT, tab, ⟨TU, PySem.W.mg_of X G aU, tabU⟩⟩
  have F0 := fun_mk (st := top 12) l0 c0 k0
  have b0 := F0.binds (ps := ["thing"]) fun _ _ _ _ _ _ us hl => by obtain ⟨_, rfl⟩ := len_1 hl; rfl
  have m0 := PySem.W.mg_of X G a0
  have F1 := fun_mk (st := top 13) l1 c1 k1
  have b1 := F1.binds (ps := ["thing", "wires", "depth"]) fun _ _ _ _ _ _ us hl => by obtain ⟨_, _, _, rfl⟩ := len_3 hl; rfl
  have m1 := PySem.W.mg_of X G a1
  have F2 := fun_mk (st := top 14) l2 c2 k2
  have b2 := F2.binds (ps := ["thing"]) fun _ _ _ _ _ _ us hl => by obtain ⟨_, rfl⟩ := len_1 hl; rfl
  have m2 := PySem.W.mg_of X G a2
  have F3 := fun_mk (st := top 15) l3 c3 k3
  have b3 := F3.binds (ps := ["thing", "many"]) fun _ _ _ _ _ _ us hl => by obtain ⟨_, _, rfl⟩ := len_2 hl; rfl
  have m3 := PySem.W.mg_of X G a3
  have F4 := fun_mk (st := top 16) l4 c4 k4
  have b4 := F4.binds (ps := ["things"]) fun _ _ _ _ _ _ us hl => by obtain ⟨_, rfl⟩ := len_1 hl; rfl
  have m4 := PySem.W.mg_of X G a4
  have F5 := fun_mk (st := top 17) l5 c5 k5
  have b5 := F5.binds (ps := ["thing"]) fun _ _ _ _ _ _ us hl => by obtain ⟨_, rfl⟩ := len_1 hl; rfl
  have m5 := PySem.W.mg_of X G a5
  have F6 := fun_mk (st := top 18) l6 c6 k6
  have b6 := F6.binds (ps := ["net"]) fun _ _ _ _ _ _ us hl => by obtain ⟨_, rfl⟩ := len_1 hl; rfl
  have m6 := PySem.W.mg_of X G a6
  have F7 := fun_mk (st := top 19) l7 c7 k7
  have b7 := F7.binds (ps := ["net"]) fun _ _ _ _ _ _ us hl => by obtain ⟨_, rfl⟩ := len_1 hl; rfl
  have m7 := PySem.W.mg_of X G a7
  have F8 := fun_mk (st := top 20) l8 c8 k8
  have b8 := F8.binds (ps := ["net", "thing"]) fun _ _ _ _ _ _ us hl => by obtain ⟨_, _, rfl⟩ := len_2 hl; rfl
  have m8 := PySem.W.mg_of X G a8
  have F9 := fun_mk (st := top 21) l9 c9 k9
  have b9 := F9.binds (ps := ["net", "thing"]) fun _ _ _ _ _ _ us hl => by obtain ⟨_, _, rfl⟩ := len_2 hl; rfl
  have m9 := PySem.W.mg_of X G a9
  have F10 := fun_mk (st := top 22) l10 c10 k10
  have b10 := F10.binds (ps := ["rule", "signs"]) fun _ _ _ _ _ _ us hl => by obtain ⟨_, _, rfl⟩ := len_2 hl; rfl
  have m10 := PySem.W.mg_of X G a10
  have F11 := fun_mk (st := top 23) l11 c11 k11
  have b11 := F11.binds (ps := ["rule", "signs"]) fun _ _ _ _ _ _ us hl => by obtain ⟨_, _, rfl⟩ := len_2 hl; rfl
  have m11 := PySem.W.mg_of X G a11
  have F12 := fun_mk (st := top 24) l12 c12 k12
  have b12 := F12.binds (ps := ["net", "standing"]) fun _ _ _ _ _ _ us hl => by obtain ⟨_, _, rfl⟩ := len_2 hl; rfl
  have m12 := PySem.W.mg_of X G a12
  have F13 := fun_mk (st := top 25) l13 c13 k13
  have b13 := F13.binds (ps := ["net", "rule", "standing"]) fun _ _ _ _ _ _ us hl => by obtain ⟨_, _, _, rfl⟩ := len_3 hl; rfl
  have m13 := PySem.W.mg_of X G a13
  have F14 := fun_mk (st := top 26) l14 c14 k14
  have b14 := F14.binds (ps := ["standing", "place"]) fun _ _ _ _ _ _ us hl => by obtain ⟨_, _, rfl⟩ := len_2 hl; rfl
  have m14 := PySem.W.mg_of X G a14
  have F15 := fun_mk (st := top 27) l15 c15 k15
  have b15 := F15.binds (ps := ["net", "standing"]) fun _ _ _ _ _ _ us hl => by obtain ⟨_, _, rfl⟩ := len_2 hl; rfl
  have m15 := PySem.W.mg_of X G a15
  have F16 := fun_mk (st := top 28) l16 c16 k16
  have b16 := F16.binds (ps := ["net", "standing"]) fun _ _ _ _ _ _ us hl => by obtain ⟨_, _, rfl⟩ := len_2 hl; rfl
  have m16 := PySem.W.mg_of X G a16
  have F17 := fun_mk (st := top 29) l17 c17 k17
  have b17 := F17.binds (ps := ["net", "standing", "name"]) fun _ _ _ _ _ _ us hl => by obtain ⟨_, _, _, rfl⟩ := len_3 hl; rfl
  have m17 := PySem.W.mg_of X G a17
  have F18 := fun_mk (st := top 30) l18 c18 k18
  have b18 := F18.binds (ps := ["net", "standing", "name"]) fun _ _ _ _ _ _ us hl => by obtain ⟨_, _, _, rfl⟩ := len_3 hl; rfl
  have m18 := PySem.W.mg_of X G a18
  have F19 := fun_mk (st := top 32) l19 c19 k19
  have b19 := F19.binds (ps := ["script"]) fun _ _ _ _ _ _ us hl => by obtain ⟨_, rfl⟩ := len_1 hl; rfl
  have m19 := PySem.W.mg_of X G a19
  have F20 := fun_mk (st := top 33) l20 c20 k20
  have b20 := F20.binds (ps := ["deck", "many"]) fun _ _ _ _ _ _ us hl => by obtain ⟨_, _, rfl⟩ := len_2 hl; rfl
  have m20 := PySem.W.mg_of X G a20
  have F21 := fun_mk (st := top 34) l21 c21 k21
  have b21 := F21.binds (ps := ["deck", "names", "deep"]) fun _ _ _ _ _ _ us hl => by obtain ⟨_, _, _, rfl⟩ := len_3 hl; rfl
  have m21 := PySem.W.mg_of X G a21
  have F22 := fun_mk (st := top 35) l22 c22 k22
  have b22 := F22.binds (ps := ["deck", "many"]) fun _ _ _ _ _ _ us hl => by obtain ⟨_, _, rfl⟩ := len_2 hl; rfl
  have m22 := PySem.W.mg_of X G a22
  have F23 := fun_mk (st := top 36) l23 c23 k23
  have b23 := F23.binds (ps := ["one", "other", "own"]) fun _ _ _ _ _ _ us hl => by obtain ⟨_, _, _, rfl⟩ := len_3 hl; rfl
  have m23 := PySem.W.mg_of X G a23
  have F24 := fun_mk (st := top 37) l24 c24 k24
  have b24 := F24.binds (ps := ["deck"]) fun _ _ _ _ _ _ us hl => by obtain ⟨_, rfl⟩ := len_1 hl; rfl
  have m24 := PySem.W.mg_of X G a24
  have F25 := fun_mk (st := top 38) l25 c25 k25
  have b25 := F25.binds (ps := ["deck"]) fun _ _ _ _ _ _ us hl => by obtain ⟨_, rfl⟩ := len_1 hl; rfl
  have m25 := PySem.W.mg_of X G a25
  have F26 := fun_mk (st := top 39) l26 c26 k26
  have b26 := F26.binds (ps := ["deck", "net"]) fun _ _ _ _ _ _ us hl => by obtain ⟨_, _, rfl⟩ := len_2 hl; rfl
  have m26 := PySem.W.mg_of X G a26
  have F27 := fun_mk (st := top 40) l27 c27 k27
  have b27 := F27.binds (ps := ["rule", "names"]) fun _ _ _ _ _ _ us hl => by obtain ⟨_, _, rfl⟩ := len_2 hl; rfl
  have m27 := PySem.W.mg_of X G a27
  have F28 := fun_mk (st := top 41) l28 c28 k28
  have b28 := F28.binds (ps := ["deck", "row"]) fun _ _ _ _ _ _ us hl => by obtain ⟨_, _, rfl⟩ := len_2 hl; rfl
  have m28 := PySem.W.mg_of X G a28
  have F29 := fun_mk (st := top 42) l29 c29 k29
  have b29 := F29.binds (ps := ["deck", "net"]) fun _ _ _ _ _ _ us hl => by obtain ⟨_, _, rfl⟩ := len_2 hl; rfl
  have m29 := PySem.W.mg_of X G a29
  have F30 := fun_mk (st := top 43) l30 c30 k30
  have b30 := F30.binds (ps := ["net", "other", "names", "standing"]) fun _ _ _ _ _ _ us hl => by obtain ⟨_, _, _, _, rfl⟩ := len_4 hl; rfl
  have m30 := PySem.W.mg_of X G a30
  have F31 := fun_mk (st := top 44) l31 c31 k31
  have b31 := F31.binds (ps := ["net", "other", "names", "standing"]) fun _ _ _ _ _ _ us hl => by obtain ⟨_, _, _, _, rfl⟩ := len_4 hl; rfl
  have m31 := PySem.W.mg_of X G a31
  have F32 := fun_mk (st := top 45) l32 c32 k32
  have b32 := F32.binds (ps := ["deck", "net", "other", "names"]) fun _ _ _ _ _ _ us hl => by obtain ⟨_, _, _, _, rfl⟩ := len_4 hl; rfl
  have m32 := PySem.W.mg_of X G a32
  have F33 := fun_mk (st := top 46) l33 c33 k33
  have b33 := F33.binds (ps := ["deck", "net"]) fun _ _ _ _ _ _ us hl => by obtain ⟨_, _, rfl⟩ := len_2 hl; rfl
  have m33 := PySem.W.mg_of X G a33
  have F34 := fun_mk (st := top 47) l34 c34 k34
  have b34 := F34.binds (ps := ["script"]) fun _ _ _ _ _ _ us hl => by obtain ⟨_, rfl⟩ := len_1 hl; rfl
  have m34 := PySem.W.mg_of X G a34
  refine ⟨PySem.W.fnOf "law" "law" (defArgs (top 47)) (defBody (top 47)) (defScope (top 47)) .none kV34 dc34 pm34 an34 cd34 ct34, fun s v => .of_eq rfl, fun base _ _ => ?_⟩
  have g19 : Fn l.prog w K mg base "_law_deck" ["script"] 1 (spDeck K) := ⟨f19, _, ok_deck F19 T, m19, k19, b19⟩
  have g20 : Fn l.prog w K mg base "_law_draw" ["deck", "many"] 1 spDraw := ⟨f20, _, ok_draw F20 T, m20, k20, b20⟩
  have g23 : Fn l.prog w K mg base "_law_held" ["one", "other", "own"] 1 spHeld := ⟨f23, _, ok_held F23 T, m23, k23, b23⟩
  have g24 : Fn l.prog w K mg base "_law_known" ["deck"] 2 spNet := ⟨f24, _, ok_known F24 T g20 g23, m24, k24, b24⟩
  have g22 : Fn l.prog w K mg base "_law_names" ["deck", "many"] 2 spNames := ⟨f22, _, ok_names F22 T g20, m22, k22, b22⟩
  have g21 : Fn l.prog w K mg base "_law_rule" ["deck", "names", "deep"] 11 (spRule 10) := ⟨f21, _, ok_rule F21 T g20 m21 k21 b21 10, m21, k21, b21⟩
  have g25 : Fn l.prog w K mg base "_law_net" ["deck"] 12 spNet := ⟨f25, _, ok_net F25 T g20 g24 g22 g21, m25, k25, b25⟩
  have g6 : Fn l.prog w K mg base "gates_of" ["net"] 1 spGates := ⟨f6, _, ok_gates F6 T, m6, k6, b6⟩
  have g7 : Fn l.prog w K mg base "wires_of" ["net"] 2 spWires := ⟨f7, _, ok_wires F7 T g6, m7, k7, b7⟩
  have g28 : Fn l.prog w K mg base "_law_shuffled" ["deck", "row"] 2 spShuf := ⟨f28, _, ok_shuf F28 T g20, m28, k28, b28⟩
  have g27 : Fn l.prog w K mg base "_law_renamed" ["rule", "names"] 10 (spRen 10) := ⟨f27, _, ok_ren F27 T m27 k27 b27 10, m27, k27, b27⟩
  have g29 : Fn l.prog w K mg base "_law_other" ["deck", "net"] 11 spOther := ⟨f29, _, ok_other F29 T g7 g28 g27, m29, k29, b29⟩
  have g2 : Fn l.prog w K mg base "is_pair" ["thing"] 1 spPair := ⟨f2, _, ok_pair F2 T, m2, k2, b2⟩
  have g0 : Fn l.prog w K mg base "is_name" ["thing"] 1 spName := ⟨f0, _, ok_name F0 T, m0, k0, b0⟩
  have g4 : Fn l.prog w K mg base "are_unlike_names" ["things"] 2 spUnlike := ⟨f4, _, ok_unlike F4 T g0, m4, k4, b4⟩
  have g1 : Fn l.prog w K mg base "is_rule" ["thing", "wires", "depth"] 10 (spRuleOk 10) := ⟨f1, _, ok_isrule F1 T m1 k1 b1 10, m1, k1, b1⟩
  have g5 : Fn l.prog w K mg base "is_net" ["thing"] 11 spIsNet := ⟨f5, _, ok_isnet F5 T g2 g7 g4 g1, m5, k5, b5⟩
  have g26 : Fn l.prog w K mg base "_law_standing" ["deck", "net"] 2 spStanding := ⟨f26, _, ok_standing F26 T g20, m26, k26, b26⟩
  have g30 : Fn l.prog w K mg base "_law_moved" ["net", "other", "names", "standing"] 3 spMv := ⟨f30, _, ok_mv F30 T g7, m30, k30, b30⟩
  have g3 : Fn l.prog w K mg base "is_row" ["thing", "many"] 1 spRow := ⟨f3, _, ok_row F3 T, m3, k3, b3⟩
  have g8 : Fn l.prog w K mg base "is_standing" ["net", "thing"] 2 (spIsSt (.bl true)) := ⟨f8, _, ok_isst F8 T g3, m8, k8, b8⟩
  have g9 : Fn l.prog w K mg base "check_standing" ["net", "thing"] 3 (spIsSt .non) := ⟨f9, _, ok_check F9 T g8, m9, k9, b9⟩
  have g12 : Fn l.prog w K mg base "signs_in" ["net", "standing"] 3 spSg := ⟨f12, _, ok_sg F12 T g7, m12, k12, b12⟩
  have g10 : Fn l.prog w K mg base "rule_holds" ["rule", "signs"] 10 (spHolds 10) := ⟨f10, _, ok_holds F10 T m10 k10 b10 10, m10, k10, b10⟩
  have g11 : Fn l.prog w K mg base "rule_worth" ["rule", "signs"] 11 (spWorth 10) := ⟨f11, _, ok_worth F11 T g10, m11, k11, b11⟩
  have g13 : Fn l.prog w K mg base "worth_of" ["net", "rule", "standing"] 12 spWorthOf := ⟨f13, _, ok_worthof F13 T g9 g12 g11, m13, k13, b13⟩
  have g14 : Fn l.prog w K mg base "turned_at" ["standing", "place"] 1 spTurned := ⟨f14, _, ok_turned F14 T, m14, k14, b14⟩
  have g15 : Fn l.prog w K mg base "steps_from" ["net", "standing"] 12 spSteps := ⟨f15, _, ok_steps F15 T g12 g11 g14, m15, k15, b15⟩
  have g16 : Fn l.prog w K mg base "asked_gates" ["net", "standing"] 13 spAsked := ⟨f16, _, ok_asked F16 T g9 g15, m16, k16, b16⟩
  have g31 : Fn l.prog w K mg base "_law_same" ["net", "other", "names", "standing"] 14 spSame7 := ⟨f31, _, ok_same7 F31 T g30 g13 g7 g16, m31, k31, b31⟩
  have g17 : Fn l.prog w K mg base "switch_gate" ["net", "standing", "name"] 14 spSwitchG := ⟨f17, _, ok_switchG F17 T g9 g15, m17, k17, b17⟩
  have g18 : Fn l.prog w K mg base "turn_input" ["net", "standing", "name"] 5 spTurnG := ⟨f18, _, ok_turnG F18 T g9 g14, m18, k18, b18⟩
  have g32 : Fn l.prog w K mg base "_law_walked" ["deck", "net", "other", "names"] 15 spWalk7 := ⟨f32, _, ok_walk7 F32 T g26 g31 g30 g16 g20 g17 g18, m32, k32, b32⟩
  have g33 : Fn l.prog w K mg base "_law_more" ["deck", "net"] 14 spMore := ⟨f33, _, ok_more7 F33 T g7 g21 g26 g16 g5, m33, k33, b33⟩
  exact ok_law7 F34 T g19 g25 g29 g5 g32 g33
theorem walk {l : PySem.W.OpenLaw} {q : Program} {loose : List Str} {XP : (Str → Option Value) → Heap → Prop} {YP : World → Heap → Prop} {d : DefRec} {K : Params → PySem.W.Frag} (hn : l.most = some 63) (hdf : d.params.defaults = [])
    (hY : ∀ (w : World) (h : Heap), YP w h → (K w.params).In h)
    (F : ∀ (w : World) (mg : Str → Option Value) (fa : Addr) (h : Heap), (K w.params).In h → h.Ns mainGlobals mg → mg d.name = some (.ref fa) →
      ∃ fd : FuncData, (∀ (s : Shared) (u : Value), BindsTo s fd ⟨[u], []⟩ [("script", u)]) ∧ ∀ base : Heap, (K w.params).In base → base.Ns mainGlobals mg → FnOk l.prog w (K w.params) mg base CX0 16 fa fd ["script"] (spLaw (K w.params))) :
    PySem.W.WalkO q loose XP YP l.row.toRowW d [] (fun f vs => PySem.call f vs) :=
  L2.walk_of (n := 63) (k := 16) (x := "script") (CX := fun _ => CX0) (sp := fun w => spLaw (K w.params)) hn (by decide) hdf ⟨rfl, by decide, by decide⟩ hY F (fun _ _ a ns hl _ hS => ⟨a, ns, rfl, hS, hl, fun _ => rfl⟩) fun _ _ _ _ _ z => z
theorem walkX {q : Program} {loose : List Str} {XP : (Str → Option Value) → Heap → Prop} {K : Params → PySem.W.Frag} {as : List Addr} {n t : Nat} {r : PySem.W.RowW} {d : DefRec} {kwd : List (Str × Expr)} {run : Value → List Value → Sem Value}
    (e : ∀ P, as = (K P).map (·.1)) (W : PySem.W.WalkO q loose XP (PySem.W.InK K) r d kwd run) : PySem.W.WalkX q loose XP (PySem.W.X.obsZ as) (PySem.W.X.valZ K n t) r d kwd run := by
  intro w s₀ s₁ mg mb G y a o pm cd doc dV kV h1 h2 h3 h4 h5 h6 args vals as' L p1 p2 p3 p4 p5
  exact W w s₀ s₁ mg mb G (PySem.W.InK.keeps _ _ _ (PySem.W.X.z_facts e y).2.1 L.keeps) a o pm cd doc dV kV h1 h2 h3 h4 h5 h6 args vals as' p1 p2 p3 p4 p5
end K2
open PySem PySem.W PyProof.Rows
set_option maxRecDepth 100000 in
set_option maxHeartbeats 0 in
theorem PySem.Challenge.cw_anydelay_k07_whole_named_otherwise_holds : PySem.Challenge.rw_anydelay_k07_whole_named_otherwise.Holds := by
  w_on; o_law; z_head; (case hw => w_witness2)
  k_fill
  refine K2.walkX (fun _ => by kernel_rfl) ?W
  case W =>
   refine K2.walk (l := PySem.Challenge.rw_anydelay_k07_whole_named_otherwise) rfl rfl (fun w h Y => Y) ?F
   case F =>
    intro w mg fa h KX G hmg
    refine' K2.all_mk KX G hmg ?aT ?tab ?a0 ?l0 ?c0 ?k0 ?a1 ?l1 ?c1 ?k1 ?a2 ?l2 ?c2 ?k2 ?a3 ?l3 ?c3 ?k3 ?a4 ?l4 ?c4 ?k4 ?a5 ?l5 ?c5 ?k5 ?a6 ?l6 ?c6 ?k6 ?a7 ?l7 ?c7 ?k7 ?a8 ?l8 ?c8 ?k8 ?a9 ?l9 ?c9 ?k9 ?a10 ?l10 ?c10 ?k10 ?a11 ?l11 ?c11 ?k11 ?a12 ?l12 ?c12 ?k12 ?a13 ?l13 ?c13 ?k13 ?a14 ?l14 ?c14 ?k14 ?a15 ?l15 ?c15 ?k15 ?a16 ?l16 ?c16 ?k16 ?a17 ?l17 ?c17 ?k17 ?a18 ?l18 ?c18 ?k18 ?a19 ?l19 ?c19 ?k19 ?a20 ?l20 ?c20 ?k20 ?a21 ?l21 ?c21 ?k21 ?a22 ?l22 ?c22 ?k22 ?a23 ?l23 ?c23 ?k23 ?a24 ?l24 ?c24 ?k24 ?a25 ?l25 ?c25 ?k25 ?a26 ?l26 ?c26 ?k26 ?a27 ?l27 ?c27 ?k27 ?a28 ?l28 ?c28 ?k28 ?a29 ?l29 ?c29 ?k29 ?a30 ?l30 ?c30 ?k30 ?a31 ?l31 ?c31 ?k31 ?a32 ?l32 ?c32 ?k32 ?a33 ?l33 ?c33 ?k33 ?a34 ?l34 ?c34 ?k34 ?cn0 ?cn1 ?cn2 ?cn3 ?cn4 ?aU ?tabU ?z0 ?z1 ?z2 ?z3 ?z4 ?z5 ?z6 ?z7 ?z8 ?z9 ?z10 ?z11 ?z12 ?z13 ?z14 ?z15
    (case aT => k_is)
    (case tab => first | rfl | decide | decide +kernel)
    (case a0 => k_is); (case l0 => k_is); (case c0 => k_is); (case k0 => k_is)
    (case a1 => k_is); (case l1 => k_is); (case c1 => k_is); (case k1 => k_is)
    (case a2 => k_is); (case l2 => k_is); (case c2 => k_is); (case k2 => k_is)
    (case a3 => k_is); (case l3 => k_is); (case c3 => k_is); (case k3 => k_is)
    (case a4 => k_is); (case l4 => k_is); (case c4 => k_is); (case k4 => k_is)
    (case a5 => k_is); (case l5 => k_is); (case c5 => k_is); (case k5 => k_is)
    (case a6 => k_is); (case l6 => k_is); (case c6 => k_is); (case k6 => k_is)
    (case a7 => k_is); (case l7 => k_is); (case c7 => k_is); (case k7 => k_is)
    (case a8 => k_is); (case l8 => k_is); (case c8 => k_is); (case k8 => k_is)
    (case a9 => k_is); (case l9 => k_is); (case c9 => k_is); (case k9 => k_is)
    (case a10 => k_is); (case l10 => k_is); (case c10 => k_is); (case k10 => k_is)
    (case a11 => k_is); (case l11 => k_is); (case c11 => k_is); (case k11 => k_is)
    (case a12 => k_is); (case l12 => k_is); (case c12 => k_is); (case k12 => k_is)
    (case a13 => k_is); (case l13 => k_is); (case c13 => k_is); (case k13 => k_is)
    (case a14 => k_is); (case l14 => k_is); (case c14 => k_is); (case k14 => k_is)
    (case a15 => k_is); (case l15 => k_is); (case c15 => k_is); (case k15 => k_is)
    (case a16 => k_is); (case l16 => k_is); (case c16 => k_is); (case k16 => k_is)
    (case a17 => k_is); (case l17 => k_is); (case c17 => k_is); (case k17 => k_is)
    (case a18 => k_is); (case l18 => k_is); (case c18 => k_is); (case k18 => k_is)
    (case a19 => k_is); (case l19 => k_is); (case c19 => k_is); (case k19 => k_is)
    (case a20 => k_is); (case l20 => k_is); (case c20 => k_is); (case k20 => k_is)
    (case a21 => k_is); (case l21 => k_is); (case c21 => k_is); (case k21 => k_is)
    (case a22 => k_is); (case l22 => k_is); (case c22 => k_is); (case k22 => k_is)
    (case a23 => k_is); (case l23 => k_is); (case c23 => k_is); (case k23 => k_is)
    (case a24 => k_is); (case l24 => k_is); (case c24 => k_is); (case k24 => k_is)
    (case a25 => k_is); (case l25 => k_is); (case c25 => k_is); (case k25 => k_is)
    (case a26 => k_is); (case l26 => k_is); (case c26 => k_is); (case k26 => k_is)
    (case a27 => k_is); (case l27 => k_is); (case c27 => k_is); (case k27 => k_is)
    (case a28 => k_is); (case l28 => k_is); (case c28 => k_is); (case k28 => k_is)
    (case a29 => k_is); (case l29 => k_is); (case c29 => k_is); (case k29 => k_is)
    (case a30 => k_is); (case l30 => k_is); (case c30 => k_is); (case k30 => k_is)
    (case a31 => k_is); (case l31 => k_is); (case c31 => k_is); (case k31 => k_is)
    (case a32 => k_is); (case l32 => k_is); (case c32 => k_is); (case k32 => k_is)
    (case a33 => k_is); (case l33 => k_is); (case c33 => k_is); (case k33 => k_is)
    (case a34 => k_is); (case l34 => k_is); (case c34 => k_is); (case k34 => k_is)
    (case cn0 => k_is)
    (case cn1 => k_is)
    (case cn2 => k_is)
    (case cn3 => k_is)
    (case cn4 => k_is)
    (case aU => k_is)
    (case tabU => (first | rfl | decide | decide +kernel))
    (case z0 => k_is)
    (case z1 => k_is)
    (case z2 => k_is)
    (case z3 => k_is)
    (case z4 => k_is)
    (case z5 => k_is)
    (case z6 => k_is)
    (case z7 => k_is)
    (case z8 => k_is)
    (case z9 => k_is)
    (case z10 => k_is)
    (case z11 => k_is)
    (case z12 => k_is)
    (case z13 => k_is)
    (case z14 => k_is)
    (case z15 => k_is)
