import PyProof.Rows.All
import Wide.All
import OpenK.AllK
import Wide.FinOn
import Lean
import PyProof.EqAt
import PyProof.EqKinds
import PyProof.TupleCall
import PyProof.NeKinds
import KE.KTabLook
import KE.KIntText
import KE.KUnpack
import PyProof.StrBlock2
import PyProof.ZipIter
import PyProof.Draws
import PyProof.AttrMissHeap
import PyProof.DictUpdate
import PyProof.ListNew
import PyProof.FactsAll.dict_1
import PyProof.Rows.DictSet
import PyProof.StationsW
import PyProof.RulesAs
import PyProof.ExcClass2
import KE.KTryMore
import PyProof.InstStoreFacts
import PyProof.ExcBaseAll.ValueError
import PyProof.NsDelKeeps
import PyProof.FactsAll.list_1
import PyProof.ForAppend
import PyProof.Rows.StrInSeq3
import KE.KRevSl
import PyProof.Rows.StrNews
import PyProof.StrLawsTight
import PyProof.PureStr
import PyProof.FitsStr
import KE.KEqDict
import PyProof.CompUse
import PyProof.AutoListH
import PySem.Challenge.RW_anydelay_k01_what_is_a_net
noncomputable section
-- CHANGE: your row's module here, as the last of these rows
set_option Elab.async false
set_option linter.all false
set_option maxRecDepth 100000
namespace L2
open PySem PySem.Spec PyProof.Rows

abbrev Key := Sum Int Str
noncomputable def keyIs : Key → Value → Bool
  | .inl k, v => Value.isInt k v
  | .inr x, v => Value.isStrOf x v
noncomputable def keyH (w : World) : Key → Int
  | .inl k => hashInt k
  | .inr x => hashStr w x
theorem keyIs_shape : ∀ {k : Key} {v : Value}, keyIs k v = true → (∃ i t, k = Sum.inl i ∧ v = Value.int i t) ∨ (∃ x t, k = Sum.inr x ∧ v = Value.str x t)
  | .inl i, v, h => by
    obtain ⟨t, e⟩ := Value.isInt_shape (k := i) (v := v) h
    exact .inl ⟨i, t, rfl, e⟩
  | .inr x, v, h => by
    obtain ⟨t, e⟩ := Value.isStrOf_shape (x := x) (v := v) h
    exact .inr ⟨x, t, rfl, e⟩
theorem key_ll (a b : Int) : decide ((Sum.inl a : Key) = Sum.inl b) = (a == b) := by
  by_cases e : a = b
  · subst e; simp
  · have h : ¬ (Sum.inl a : Key) = Sum.inl b := fun q => e (Sum.inl.inj q)
    rw [decide_eq_false h]
    exact (beq_eq_false_iff_ne.mpr e).symm
theorem key_rr (a b : Str) : decide ((Sum.inr a : Key) = Sum.inr b) = decide (a = b) := by
  by_cases e : a = b
  · subst e; simp
  · have h : ¬ (Sum.inr a : Key) = Sum.inr b := fun q => e (Sum.inr.inj q)
    rw [decide_eq_false h, decide_eq_false e]
theorem key_lr (a : Int) (b : Str) : decide ((Sum.inl a : Key) = Sum.inr b) = false := decide_eq_false (fun q => nomatch q)
theorem key_rl (a : Str) (b : Int) : decide ((Sum.inr a : Key) = Sum.inl b) = false := decide_eq_false (fun q => nomatch q)

noncomputable def mixKind (prog : Program) (w : World) : PySem.KeyKind prog w Key where
  is := keyIs
  hash := keyH w
  inj := fun v a b ha hb => by
    rcases keyIs_shape ha with ⟨i, t, rfl, rfl⟩ | ⟨x, t, rfl, rfl⟩
    · rcases keyIs_shape hb with ⟨j, u, rfl, e⟩ | ⟨y, u, rfl, e⟩
      · injection e with e1 _; rw [e1]
      · exact nomatch e
    · rcases keyIs_shape hb with ⟨j, u, rfl, e⟩ | ⟨y, u, rfl, e⟩
      · exact nomatch e
      · injection e with e1 _; rw [e1]
  byValue := fun k v h => by
    rcases keyIs_shape h with ⟨i, t, rfl, rfl⟩ | ⟨x, t, rfl, rfl⟩ <;> rfl
  pyHash := fun hv h => by
    rcases keyIs_shape hv with ⟨i, t, rfl, rfl⟩ | ⟨x, t, rfl, rfl⟩
    · exact wpAny_pyHash_int h
    · exact wpAny_pyHash_str h
  eqBool := fun hu hv h => by
    rcases keyIs_shape hu with ⟨i, t, rfl, rfl⟩ | ⟨x, t, rfl, rfl⟩
    · rcases keyIs_shape hv with ⟨j, u, rfl, rfl⟩ | ⟨y, u, rfl, rfl⟩
      · rw [key_ll] at h; exact wpAny_eqBool_int h
      · rw [key_lr] at h; exact SeqAt.EqAt.int_str i t y u _ _ _ _ h
    · rcases keyIs_shape hv with ⟨j, u, rfl, rfl⟩ | ⟨y, u, rfl, rfl⟩
      · rw [key_rl] at h; exact SeqAt.EqAt.str_int x t j u _ _ _ _ h
      · rw [key_rr] at h; exact wpAny_eqBool_str h
  «strs» := fun k x t v h => by
    rcases keyIs_shape h with ⟨i, u, rfl, e⟩ | ⟨y, u, rfl, e⟩
    · exact nomatch e
    · injection e with e1 _
      subst e1
      cases v <;> rfl

end L2

namespace L2
open PySem PySem.Spec PyProof.Rows

inductive V where
  | non | bl (b : Bool) | int (i : Int) | str (x : Str) | byt (b : Array UInt8) | flt (b : UInt64) | ref (a : Addr) | ty (n : String)
  deriving DecidableEq

noncomputable def RelV : V → Value → Prop
  | .non, u => u = Value.none
  | .bl b, u => u = Value.bool b
  | .int i, u => ∃ t, u = Value.int i t
  | .str x, u => ∃ t, u = Value.str x t
  | .byt b, u => ∃ t, u = Value.bytes b t
  | .flt b, u => ∃ t, u = Value.float b t
  | .ref a, u => u = Value.ref a
  | .ty n, u => u = Value.type n

abbrev Vals : List V → List Value → Prop := Paired RelV
theorem Vals.length {xs : List V} {us : List Value} (r : Vals xs us) : xs.length = us.length := Paired.length r
theorem Vals.get : ∀ {xs : List V} {us : List Value} {i : Nat} {x : V}, Vals xs us → xs[i]? = some x → ∃ u, us[i]? = some u ∧ RelV x u
  | _, _, _, _, .nil, e => by simp at e
  | _, _, 0, _, .cons r _, e => by simp at e; subst e; exact ⟨_, rfl, r⟩
  | _, _, i + 1, x, .cons _ t, e => by
    obtain ⟨u, h1, h2⟩ := Vals.get (i := i) (x := x) t (by simpa using e)
    exact ⟨u, by simpa using h1, h2⟩
theorem Vals.set {x : V} {u : Value} (r : RelV x u) : ∀ {xs : List V} {us : List Value} (i : Nat), Vals xs us → Vals (xs.set i x) (us.set i u)
  | _, _, _, .nil => .nil
  | _, _, 0, .cons _ t => .cons r t
  | _, _, i + 1, .cons q t => .cons q (Vals.set r i t)
theorem Vals.append : ∀ {xs ys : List V} {us ws : List Value}, Vals xs us → Vals ys ws → Vals (xs ++ ys) (us ++ ws)
  | _, _, _, _, .nil, s => s
  | _, _, _, _, .cons r t, s => .cons r (Vals.append t s)
theorem Vals.take : ∀ {xs : List V} {us : List Value} (n : Nat), Vals xs us → Vals (xs.take n) (us.take n)
  | _, _, 0, _ => .nil
  | _, _, _ + 1, .nil => .nil
  | _, _, n + 1, .cons r t => .cons r (Vals.take n t)
theorem Vals.drop : ∀ {xs : List V} {us : List Value} (n : Nat), Vals xs us → Vals (xs.drop n) (us.drop n)
  | _, _, 0, r => r
  | _, _, _ + 1, .nil => .nil
  | _, _, n + 1, .cons _ t => Vals.drop n t

noncomputable def RelO : Option V → Option Value → Prop
  | some v, some u => RelV v u
  | none, none => True
  | _, _ => False
noncomputable def KV {κ : Type} : List (κ × V) → List (κ × Value) → Prop := Paired fun (p : κ × V) (q : κ × Value) => p.1 = q.1 ∧ RelV p.2 q.2

noncomputable def kV : Key → V
  | .inl i => .int i
  | .inr x => .str x

inductive HO where
  /-- a list -/
  | lst (xs : List V)
  /-- a tuple (never changes) -/
  | tup (xs : List V)
  /-- a dict whose keys are ints and texts; one whose keys are tuples of ints and texts (the empty one is both) -/
  | dK (kvs : List (Key × V)) | dT (kvs : List (List Key × V))
  /-- a set of ints: its members, its size -/
  | set (S : Int → Bool) (n : Nat)
  /-- an instance of the class at C, its dict at dx, its attributes -/
  | ins (C dx : Addr) (fs : List (Str × V))
  /-- the dict of the instance at x -/
  | own (x : Addr)
  /-- the dict of an exception -/
  | xd (fs : List (Str × V))
  /-- a bound method, f of x -/
  | met (f x : Addr)
  /-- a range object lo, lo + 1, .. below hi -/
  | rng (lo hi : Int)
  /-- a thing that is known to the object (the script; a dict while a loop walks it): read, never written while it is so -/
  | frz (o : Obj) (u : HO)
  /-- a code object's table -/
  | tbl (ps : Array Value)
  /-- any other thing, by what is true of its one object (a def of one's own: SetO a S n := HO.ext fun h => ..) -/
  | ext (φ : Heap → Prop)

abbrev Hp := Addr → Option HO
noncomputable def upd (H : Hp) (a : Addr) (o : HO) : Hp := fun b => if b = a then some o else H b
theorem upd_same {H : Hp} {a : Addr} {o : HO} : upd H a o a = some o := by unfold upd; rw [if_pos rfl]
theorem upd_ne {H : Hp} {a b : Addr} {o : HO} (h : b ≠ a) : upd H a o b = H b := by unfold upd; rw [if_neg h]
theorem ne_of {H : Hp} {a b : Addr} {o u : HO} (h : H a = some o) (h' : H b = some u) (d : o ≠ u) : a ≠ b := by
  intro e; subst e; rw [h] at h'; exact d (Option.some.inj h')
theorem ne_of_none {H : Hp} {a b : Addr} {o : HO} (h : H a = some o) (h' : H b = none) : a ≠ b := by
  intro e; subst e; rw [h] at h'; cases h'

section
variable (P : Program) (w : World)
noncomputable def ObjOk (H : Hp) (h : Heap) (a : Addr) : HO → Prop
  | .lst xs => xs.length ≤ sizeLine ∧ ∃ (its : List Value) (n : Nat), Vals xs its ∧ h.get? a = some { cls := .type "list", data := .seq its.toArray n }
  | .tup xs => xs.length ≤ sizeLine ∧ ∃ its : List Value, Vals xs its ∧ IsTup h a its.toArray
  | .dK kvs => kvs.length ≤ sizeLine ∧ (a == sysModules) = false ∧ ∃ vs, KV kvs vs ∧ h.DictOf (mixKind P w) a vs
  | .dT kvs => kvs.length ≤ sizeLine ∧ (a == sysModules) = false ∧ ∃ xs : List (List Key × Addr × Value),
      Paired (fun (p : List Key × V) (q : List Key × Addr × Value) => p.1 = q.1 ∧ H q.2.1 = some (.tup (p.1.map kV)) ∧ RelV p.2 q.2.2) kvs xs ∧
      ∃ o es ep, h.get? a = some o ∧ o.ExactDict ∧ o.data = .dict es ep ∧ es.toList = xs.map (entryOfKey (tupleKind (mixKind P w))) ∧ (xs.map (·.1)).Nodup
  | .set S n => h.SetOf (intKind P w) a S n
  | .ins C dx fs => H dx = some (.own a) ∧ fs.length ≤ 1000 ∧ dx ≠ a ∧ h.get? a = some (PySem.W.instObj C dx) ∧
      ∃ mA, h.Ns1 dx mA ∧ (∀ f, RelO (fs.lookup f) (mA f)) ∧ PySem.Within mA (fs.map (·.1))
  | .own _ => ∃ o, h.get? a = some o
  | .xd fs => ∃ mA, h.Ns1 a mA ∧ ∀ f, RelO (fs.lookup f) (mA f)
  | .rng lo hi => ∃ t u v, h.get? a = some { cls := .type "range", data := .fields #[.int lo t, .int hi u, .int 1 v] }
  | .frz o u => h.get? a = some o ∧ ObjOk H h a u
  | .tbl ps => h.get? a = some { cls := .none, data := .fields ps }
  | .met f x => h.get? a = some (PySem.W.methodObj (.ref f) (.ref x))
  | .ext φ => φ h ∧ (∃ o, h.get? a = some o) ∧ ∀ h1 h2 : Heap, φ h1 → (∀ o, h1.get? a = some o → h2.get? a = some o) → φ h2
noncomputable def HOk (H : Hp) (h : Heap) : Prop := ∀ a o, H a = some o → ObjOk P w H h a o
end

section
variable {P : Program} {w : World} {H H' : Hp} {h h' : Heap} {a : Addr} {o : HO}
theorem ObjOk.lt (x : ObjOk P w H h a o) : a < h.objs.size := by
  cases o with
  | lst xs => obtain ⟨_, _, _, _, e⟩ := x; exact Heap.lt_size e
  | tup xs => obtain ⟨_, _, _, p⟩ := x; exact p.lt
  | dK kvs => obtain ⟨_, _, _, _, o, _, _, e, _⟩ := x; exact Heap.lt_size e
  | dT kvs => obtain ⟨_, _, _, _, o, _, _, e, _⟩ := x; exact Heap.lt_size e
  | set S n => obtain ⟨o, _, _, _, e, _⟩ := x; exact Heap.lt_size e
  | ins C dx fs => obtain ⟨_, _, _, e, _⟩ := x; exact Heap.lt_size e
  | own y => obtain ⟨_, e⟩ := x; exact Heap.lt_size e
  | xd fs => obtain ⟨_, ⟨_, _, _, e, _⟩, _⟩ := x; exact Heap.lt_size e
  | rng lo hi => obtain ⟨_, _, _, e⟩ := x; exact Heap.lt_size e
  | frz ob u => obtain ⟨e, _⟩ := x; exact Heap.lt_size e
  | tbl ps => exact Heap.lt_size (show h.get? a = some _ from x)
  | met f y => exact Heap.lt_size (show h.get? a = some _ from x)
  | ext φ => obtain ⟨_, ⟨_, e⟩, _⟩ := x; exact Heap.lt_size e
theorem Paired.mapP {α β : Type} {F G : α → β → Prop} : ∀ {l₁ : List α} {l₂ : List β}, Paired F l₁ l₂ → (∀ a b, F a b → G a b) → Paired G l₁ l₂
  | _, _, .nil, _ => .nil
  | _, _, .cons r t, f => .cons (f _ _ r) (Paired.mapP t f)
theorem ObjOk.stay (x : ObjOk P w H h a o) (k : ∀ b u, (b = a ∨ H b = some (.own a)) → h.get? b = some u → h'.get? b = some u)
    (ho : ∀ b, H b = some (.own a) → H' b = some (.own a)) (ht : ∀ b xs, H b = some (.tup xs) → H' b = some (.tup xs)) : ObjOk P w H' h' a o := by
  induction o with
  | lst xs => obtain ⟨z, its, n, r, e⟩ := x; exact ⟨z, its, n, r, k _ _ (.inl rfl) e⟩
  | tup xs => obtain ⟨z, its, r, ob, e, c⟩ := x; exact ⟨z, its, r, ob, k _ _ (.inl rfl) e, c⟩
  | dK kvs => obtain ⟨z, y, vs, r, ob, es, ep, e, c⟩ := x; exact ⟨z, y, vs, r, ob, es, ep, k _ _ (.inl rfl) e, c⟩
  | dT kvs =>
    obtain ⟨z, y, xs, r, ob, es, ep, e, c⟩ := x
    exact ⟨z, y, xs, Paired.mapP r fun p q z => ⟨z.1, ht _ _ z.2.1, z.2.2⟩, ob, es, ep, k _ _ (.inl rfl) e, c⟩
  | set S n => obtain ⟨ob, es, ep, t, e, c⟩ := x; exact ⟨ob, es, ep, t, k _ _ (.inl rfl) e, c⟩
  | ins C dx fs =>
    obtain ⟨d, z, ne, e, mA, ⟨od, es, ep, e2, c⟩, r⟩ := x
    exact ⟨ho _ d, z, ne, k _ _ (.inl rfl) e, mA, ⟨od, es, ep, k _ _ (.inr d) e2, c⟩, r⟩
  | own y => obtain ⟨ob, e⟩ := x; exact ⟨ob, k _ _ (.inl rfl) e⟩
  | xd fs => obtain ⟨mA, ⟨od, es, ep, e, c⟩, r⟩ := x; exact ⟨mA, ⟨od, es, ep, k _ _ (.inl rfl) e, c⟩, r⟩
  | rng lo hi => obtain ⟨t, u, v, e⟩ := x; exact ⟨t, u, v, k _ _ (.inl rfl) e⟩
  | frz ob u ih => obtain ⟨e, q⟩ := x; exact ⟨k _ _ (.inl rfl) e, ih q⟩
  | tbl ps =>
    have e : h.get? a = some { cls := .none, data := .fields ps } := x
    show h'.get? a = some { cls := .none, data := .fields ps }
    exact k a _ (.inl rfl) e
  | met f y =>
    have e : h.get? a = some (PySem.W.methodObj (.ref f) (.ref y)) := x
    show h'.get? a = some (PySem.W.methodObj (.ref f) (.ref y))
    exact k a _ (.inl rfl) e
  | ext φ => obtain ⟨p, ⟨o, e⟩, st⟩ := x; exact ⟨st _ _ p fun o q => k _ _ (.inl rfl) q, ⟨o, k _ _ (.inl rfl) e⟩, st⟩
theorem HOk.lt (x : HOk P w H h) (e : H a = some o) : a < h.objs.size := (x a o e).lt
theorem HOk.fresh (x : HOk P w H h) (e : h.objs.size ≤ a) : H a = none := by
  cases q : H a with
  | none => rfl
  | some u => exact absurd (Nat.lt_of_lt_of_le (x.lt q) e) (Nat.lt_irrefl _)
theorem HOk.kept (x : HOk P w H h) (k : ∀ b u, h.get? b = some u → h'.get? b = some u) : HOk P w H h' := fun a o e =>
  (x a o e).stay (fun b u _ q => k b u q) (fun _ q => q) fun _ _ q => q
theorem HOk.laid (x : HOk P w H h) (k : ∀ b u, h.get? b = some u → h'.get? b = some u) (hp : h.objs.size ≤ a) (new : ObjOk P w (upd H a o) h' a o) : HOk P w (upd H a o) h' := fun b u e => by
  have hn := x.fresh hp
  by_cases hb : b = a
  · subst hb; rw [upd_same] at e; cases e; exact new
  · rw [upd_ne hb] at e
    exact (x b u e).stay (fun c v _ q => k c v q) (fun c q => by rw [upd_ne (ne_of_none q hn)]; exact q) fun c xs q => by rw [upd_ne (ne_of_none q hn)]; exact q
end

noncomputable def Rd (H : Hp) (a : Addr) (u : HO) : Prop := H a = some u ∨ ∃ o, H a = some (.frz o u)
theorem Rd.ok {P : Program} {w : World} {H : Hp} {h : Heap} {a : Addr} {u : HO} (r : Rd H a u) (x : HOk P w H h) : ObjOk P w H h a u := by
  rcases r with r | ⟨o, r⟩
  · exact x a u r
  · obtain ⟨_, q⟩ := x a _ r
    exact q
noncomputable def Mut : Option HO → Prop
  | some (.lst _) => True
  | some (.dK _) => True
  | some (.dT _) => True
  | some (.set _ _) => True
  | some (.ins _ _ _) => True
  | some (.ext _) => True
  | _ => False
section
variable {P : Program} {w : World} {H : Hp} {h h' : Heap} {x e : Addr} {o' : HO}
theorem HOk.write (ok : HOk P w H h) (mu : Mut (H x)) (he : e = x ∨ H e = some (.own x)) (k : ∀ b u, b ≠ e → h.get? b = some u → h'.get? b = some u) (heo : ∃ u, h'.get? e = some u)
    (new : ObjOk P w (upd H x o') h' x o') : HOk P w (upd H x o') h' := fun b u q => by
  have nown : ∀ c y, H c = some (.own y) → c ≠ x := fun c y r z => by subst z; rw [r] at mu; exact mu
  have ntup : ∀ c xs, H c = some (.tup xs) → c ≠ x := fun c xs r z => by subst z; rw [r] at mu; exact mu
  by_cases hb : b = x
  · subst hb; rw [upd_same] at q; cases q; exact new
  · rw [upd_ne hb] at q
    by_cases hbe : b = e
    · have q' : H b = some (.own x) := by
        rcases he with z | z
        · exact absurd (hbe.trans z) hb
        · rw [hbe]; exact z
      rw [q] at q'; cases q'
      obtain ⟨v, hv⟩ := heo
      exact ⟨v, by rw [hbe]; exact hv⟩
    · refine (ok b u q).stay (fun c v hc r => k c v ?_ r) (fun c r => by rw [upd_ne (nown c b r)]; exact r) fun c xs r => by rw [upd_ne (ntup c xs r)]; exact r
      rcases hc with rfl | hc
      · exact hbe
      · rintro rfl
        rcases he with z | z
        · exact nown c b hc z
        · rw [hc] at z; cases z; exact hb rfl
end

structure Un (fs ex : List Addr) (H H' : Hp) (h h' : Heap) : Prop where
  keep : ∀ b o, h.get? b = some o → H b = none → b ∉ fs → b ∉ ex → h'.get? b = some o
  slot : ∀ b o, h.get? b = some o → H b = none → b ∈ fs → b ∉ ex → ∃ sl, h'.get? b = some { o with slots := sl }
  free : ∀ b o, h.get? b = some o → H b = none → b ∉ ex → H' b = none
  there : ∀ b o, h.get? b = some o → b ∉ ex → ∃ o', h'.get? b = some o'
  tups : ∀ b xs, H b = some (.tup xs) → H' b = some (.tup xs)
  frzs : ∀ b o u, H b = some (.frz o u) → H' b = some (.frz o u)
  tbls : ∀ b ps, H b = some (.tbl ps) → ∃ more, H' b = some (.tbl (ps ++ more))
section
variable {fs fs' ex ex' : List Addr} {H H1 H2 : Hp} {h h1 h2 h' : Heap} {a x e : Addr} {o : HO}
theorem Un.any (u : Un fs ex H H1 h h1) {b : Addr} {ob : Obj} (q : h.get? b = some ob) (n : H b = none) (hx : b ∉ ex) : ∃ sl, h1.get? b = some { ob with slots := sl } := by
  by_cases hb : b ∈ fs
  · exact u.slot b ob q n hb hx
  · exact ⟨ob.slots, u.keep b ob q n hb hx⟩
theorem Un.kept (k : ∀ b u, h.get? b = some u → h'.get? b = some u) : Un fs ex H H h h' :=
  ⟨fun b ob q _ _ _ => k b ob q, fun b ob q _ _ _ => ⟨ob.slots, k b ob q⟩, fun _ _ _ n _ => n, fun b ob q _ => ⟨ob, k b ob q⟩, fun _ _ q => q, fun _ _ _ q => q, fun _ ps q => ⟨#[], by rw [q]; simp⟩⟩
theorem Un.refl : Un fs ex H H h h := Un.kept fun _ _ q => q
theorem Un.laid (k : ∀ b u, h.get? b = some u → h'.get? b = some u) (hp : h.objs.size ≤ a) (hn : H a = none) : Un fs ex H (upd H a o) h h' where
  keep := fun b u q _ _ _ => k b u q
  slot := fun b u q _ _ _ => ⟨u.slots, k b u q⟩
  free := fun b u q n _ => by rw [upd_ne (Nat.ne_of_lt (Nat.lt_of_lt_of_le (Heap.lt_size q) hp))]; exact n
  there := fun b u q _ => ⟨u, k b u q⟩
  tups := fun b xs q => by rw [upd_ne (ne_of_none q hn)]; exact q
  frzs := fun b u xs q => by rw [upd_ne (ne_of_none q hn)]; exact q
  tbls := fun b ps q => ⟨#[], by rw [upd_ne (ne_of_none q hn), q]; simp⟩
theorem Un.write (mu : Mut (H x)) (he : e = x ∨ H e = some (.own x)) (k : ∀ b u, b ≠ e → h.get? b = some u → h'.get? b = some u) (heo : ∃ u, h'.get? e = some u) : Un fs ex H (upd H x o) h h' := by
  have hx : ∀ b, H b = none → b ≠ x := fun b n z => by subst z; rw [n] at mu; exact mu
  have hb : ∀ b, H b = none → b ≠ e := fun b n z => by
    subst z
    rcases he with r | r
    · exact hx b n r
    · rw [n] at r; cases r
  have hm : ∀ b u, H b = some u → ¬ Mut (some u) → b ≠ x := fun b u q nm z => by subst z; rw [q] at mu; exact nm mu
  refine ⟨fun b u q n _ _ => k b u (hb b n) q, fun b u q n _ _ => ⟨u.slots, k b u (hb b n) q⟩, fun b u q n _ => by rw [upd_ne (hx b n)]; exact n, fun b u q _ => ?_,
    fun b xs q => by rw [upd_ne (hm b _ q fun z => z)]; exact q, fun b u xs q => by rw [upd_ne (hm b _ q fun z => z)]; exact q, fun b ps q => ⟨#[], by rw [upd_ne (hm b _ q fun z => z), q]; simp⟩⟩
  by_cases hbe : b = e
  · subst hbe; exact heo
  · exact ⟨u, k b u hbe q⟩
end

noncomputable def trk (h : Heap) (H : Hp) : List Addr := (List.range h.objs.size).filter fun a => (H a).isSome
noncomputable def hidT (h : Heap) (H : Hp) : Heap := PySem.W.hideAll h (trk h H)
theorem hidT_size (h : Heap) (H : Hp) : (hidT h H).objs.size = h.objs.size := PySem.W.hideAll_size _ _
theorem hidT_get {h : Heap} {H : Hp} {b : Addr} {o : Obj} (e : h.get? b = some o) (n : H b = none) : (hidT h H).get? b = some o :=
  PySem.W.hideAll_get _ e fun hm => by
    have q : (H b).isSome = true := (List.mem_filter.mp hm).2
    rw [n] at q; simp at q
theorem of_hidT {h : Heap} {H : Hp} {b : Addr} {o : Obj} (e : (hidT h H).get? b = some o) : h.get? b = some o ∧ H b = none := by
  have e' : h.get? b = some o := PySem.W.of_hideAll (trk h H) e
  refine ⟨e', ?_⟩
  cases q : H b with
  | none => rfl
  | some x =>
    have hm : b ∈ trk h H := List.mem_filter.mpr ⟨List.mem_range.mpr (Heap.lt_size e'), by simp [q]⟩
    have z : (hidT h H).get? b = none := PySem.W.hideAll_none (trk h H) hm
    rw [z] at e; cases e

noncomputable def allNews (g h : Heap) (L : Addr) : List (Addr × Obj) := (List.range h.objs.size).filterMap fun a => if a = L ∨ (g.get? a).isSome = true then none else (h.get? a).map fun o => (a, o)
noncomputable def rest (g h : Heap) (L d : Addr) : List (Addr × Obj) := (allNews g h L).filter fun p => decide (p.1 ≠ d)
end L2

namespace L2
open PySem PySem.Spec PyProof.Rows

structure Mod (K : PySem.W.Frag) (mg : Str → Option Value) (base : Heap) : Prop where
  kin : K.In base
  glob : base.Ns mainGlobals mg
  blt : ∃ mb, base.Ns builtinsNs mb ∧ ∀ x : Str, x ≠ "__name__" → mb x = bootBuiltins x
  nolimit : base.NoLimit

/-- the context: a def's body (or a comprehension's block) running. base: fixed through the whole law; s₀, H₀: the entry; outer: the frames whose slots others may change (a def's callers); stack: all frames that run;
   ex: iterators that were made ahead of the entry and are walked here (a comprehension's); fn: the names whose cells were made at the entry (a def: all; a comprehension's block: its own); calm: not within an except suite; pn: pins that every state bears; xe: what is wanted of an exception that leaves the code -/
structure Cx where
  prog : Program
  w : World
  K : PySem.W.Frag
  mg : Str → Option Value
  base : Heap
  A : Around
  N : List Str
  s₀ : Shared
  H₀ : Hp
  env : Env
  outer : List Env
  stack : List Env
  ex : List Addr
  fn : Str → Bool
  calm : Bool
  pn : List (Addr × Obj)
  xe : Value → Shared → Prop
noncomputable def frs (l : List Env) : List Addr := l.filterMap (·.frame)
abbrev Cx.fs (X : Cx) : List Addr := frs X.outer

noncomputable def Vis (sc : Scope) (x : Str) : Prop := sc.names.lookup x = some .local ∨ sc.names.lookup x = some .cell ∨ sc.names.lookup x = some .free
noncomputable def Loc (sc : Scope) (x : Str) : Prop := sc.names.lookup x = some .local ∨ sc.names.lookup x = some .cell
noncomputable def Look (env : Env) (h : Heap) (m : Str → Option Value) (x : Str) (u : Value) : Prop :=
  (env.kindOf x = some .local ∧ m x = some u) ∨ ((env.kindOf x = some .cell ∨ env.kindOf x = some .free) ∧ ∃ c, env.cells.lookup x = some c ∧ h.IsCell c (some u))

structure Cx.Ok (X : Cx) : Prop where
  mod : Mod X.K X.mg X.base
  kind : X.env.scope.kind = .function
  glob : X.env.globals = mainGlobals
  blt : X.env.builtins = builtinsNs
  above : X.s₀.heap.objs.size ≤ X.env.locals
  inj : ∀ x y c, X.env.cells.lookup x = some c → X.env.cells.lookup y = some c → x = y
  has : ∀ x, (X.env.kindOf x = some .cell ∨ X.env.kindOf x = some .free) → ∃ c, X.env.cells.lookup x = some c
  cab : ∀ x c, X.fn x = true → X.env.cells.lookup x = some c → X.s₀.heap.objs.size ≤ c
  hd : X.calm = true → X.A.handled = none
  frames : X.A.frames = some X.stack
  stk : X.stack = X.outer ∨ (X.stack = X.env :: X.outer ∧ X.env.frame = some X.env.locals)
  exf : ∀ b ∈ X.ex, b ≠ X.env.locals ∧ ∀ x c, X.env.cells.lookup x = some c → c ≠ b
  bs : ∀ b o, X.base.get? b = some o → X.s₀.heap.get? b = some o ∧ X.H₀ b = none
  bsz : X.base.objs.size ≤ X.s₀.heap.objs.size
  noex : ∀ b o, X.base.get? b = some o → b ∉ X.ex
  exfs : ∀ b ∈ X.ex, b ∉ X.fs
  funs : X.s₀.heap.FunFrames X.base X.outer
  frf : ∀ b ∈ X.fs, X.H₀ b = none

structure Inv (X : Cx) (pins : List (Addr × Obj)) (σ : List (Option V)) (H : Hp) (s : Shared) : Prop where
  ok : X.Ok
  os : s.os = X.s₀.os
  bare : AllBare s.gens
  base : Un X.fs X.ex X.H₀ H X.s₀.heap s.heap
  loc : ∃ m, s.heap.Ns X.env.locals m ∧ ∀ (i : Nat) (x : Str) (v : V), X.N[i]? = some x → σ[i]? = some (some v) → Vis X.env.scope x → ∃ u, RelV v u ∧ Look X.env s.heap m x u
  cell : ∀ x c, X.env.cells.lookup x = some c → ∃ v, s.heap.IsCell c v
  free : H X.env.locals = none
  freeC : ∀ x c, X.env.cells.lookup x = some c → H c = none
  pin : ∀ p ∈ X.pn ++ pins, s.heap.get? p.1 = some p.2 ∧ H p.1 = none ∧ p.1 ≠ X.env.locals ∧ p.1 ∉ X.fs ∧ ∀ v, p.2.data ≠ .cell v
  hok : HOk X.prog X.w H s.heap
  len : σ.length = X.N.length

section
variable {X : Cx} {pins : List (Addr × Obj)} {σ : List (Option V)} {H H' : Hp} {s : Shared} {h' : Heap}

theorem Cx.Ok.nofr (ok : X.Ok) {b : Addr} {o : Obj} (e : X.base.get? b = some o) : b ∉ X.fs := fun hb => by
  have := (ok.funs.mem hb).1
  rw [e] at this; cases this
theorem Inv.bs (I : Inv X pins σ H s) : ∀ b o, X.base.get? b = some o → s.heap.get? b = some o ∧ H b = none := fun b o e =>
  ⟨I.base.keep b o (I.ok.bs b o e).1 (I.ok.bs b o e).2 (I.ok.nofr e) (I.ok.noex b o e), I.base.free b o (I.ok.bs b o e).1 (I.ok.bs b o e).2 (I.ok.noex b o e)⟩
theorem Inv.bk (I : Inv X pins σ H s) : ∀ b o, X.base.get? b = some o → s.heap.get? b = some o := fun b o e => (I.bs b o e).1
theorem Inv.mod (I : Inv X pins σ H s) : Mod X.K X.mg X.base := I.ok.mod
theorem Inv.kIn (I : Inv X pins σ H s) : X.K.In s.heap := I.ok.mod.kin.keeps I.bk
theorem Inv.lt (I : Inv X pins σ H s) : X.env.locals < s.heap.objs.size := let ⟨_, hn, _⟩ := I.loc; hn.lt
theorem Inv.sz (I : Inv X pins σ H s) : X.s₀.heap.objs.size ≤ s.heap.objs.size := Nat.le_trans I.ok.above (Nat.le_of_lt I.lt)
theorem Inv.nofs (I : Inv X pins σ H s) {a : Addr} (h : s.heap.objs.size ≤ a) : a ∉ X.fs := fun hb => by
  obtain ⟨_, o, ho, _⟩ := I.ok.funs.mem hb
  exact absurd (Nat.lt_of_lt_of_le (Heap.lt_size ho) (Nat.le_trans I.sz h)) (Nat.lt_irrefl _)
theorem Inv.cne (I : Inv X pins σ H s) : ∀ x c, X.env.cells.lookup x = some c → c ≠ X.env.locals := fun x c e z => by
  obtain ⟨v, o, ho, hd⟩ := I.cell x c e
  obtain ⟨m, ⟨o', es, ep, ho', hd', _⟩, _⟩ := I.loc
  rw [z, ho'] at ho; cases ho; rw [hd'] at hd; cases hd
theorem Inv.funs (I : Inv X pins σ H s) : s.heap.FunFrames X.base X.outer := by
  have all : ∀ (l : List Env), (∀ b ∈ frs l, b ∈ X.fs) → X.s₀.heap.FunFrames X.base l → s.heap.FunFrames X.base l := by
    intro l
    induction l with
    | nil => intro _ _; trivial
    | cons env r ih =>
      intro hs hl
      obtain ⟨hk, ⟨L, o, hf, hn, ho, hd⟩, hr⟩ := hl
      have hL : L ∈ X.fs := hs L (by unfold frs; rw [List.filterMap_cons, hf]; exact List.mem_cons_self)
      obtain ⟨sl, e⟩ := I.base.slot L o ho (I.ok.frf L hL) hL fun z => I.ok.exfs L z hL
      exact ⟨hk, ⟨L, _, hf, hn, e, hd⟩, ih (fun b hb => hs b (by unfold frs; rw [List.filterMap_cons, hf]; exact List.mem_cons_of_mem _ hb)) hr⟩
  exact all X.outer (fun _ hb => hb) I.ok.funs

theorem Inv.stack (I : Inv X pins σ H s) : s.heap.FunFrames X.base X.stack := by
  rcases I.ok.stk with e | ⟨e, hf⟩
  · rw [e]; exact I.funs
  · rw [e]
    obtain ⟨m, hn, _⟩ := I.loc
    refine .cons (by rw [I.ok.kind]; decide) hf hn ?_ I.funs
    exact Heap.get?_none_of_le (Nat.le_trans I.ok.bsz I.ok.above)
theorem Inv.stkSub (I : Inv X pins σ H s) : ∀ b ∈ frs X.stack, b ∈ X.env.locals :: X.fs := fun b hb => by
  rcases I.ok.stk with e | ⟨e, hf⟩
  · rw [e] at hb; exact List.mem_cons_of_mem _ hb
  · rw [e] at hb
    unfold frs at hb
    rw [List.filterMap_cons, hf] at hb
    exact hb
theorem Inv.stkFree (I : Inv X pins σ H s) : ∀ b ∈ frs X.stack, H b = none := fun b hb => by
  rcases List.mem_cons.mp (I.stkSub b hb) with e | hb
  · rw [e]; exact I.free
  · obtain ⟨_, o, ho, _⟩ := I.ok.funs.mem hb
    exact I.base.free b o ho (I.ok.frf b hb) fun z => I.ok.exfs b z hb

theorem Inv.step {g' : Array GenState} {t' : Nat} {d' : Drawn} {ch : List Addr} (I : Inv X pins σ H s)
    (hch : ∀ b ∈ ch, (b ∈ X.ex ∨ X.s₀.heap.objs.size ≤ b) ∧ b ≠ X.env.locals ∧ (∀ x c, X.env.cells.lookup x = some c → c ≠ b) ∧ ∀ p ∈ X.pn ++ pins, p.1 ≠ b)
    (keep : ∀ b o, b ≠ X.env.locals → b ∉ X.fs → b ∉ ch → s.heap.get? b = some o → H b = none → h'.get? b = some o)
    (slot : ∀ b o, b ≠ X.env.locals → b ∈ X.fs → b ∉ ch → s.heap.get? b = some o → H b = none → ∃ sl, h'.get? b = some { o with slots := sl }) (free : ∀ b o, b ∉ ch → s.heap.get? b = some o → H b = none → H' b = none)
    (there : ∀ b o, b ∉ ch → s.heap.get? b = some o → ∃ o', h'.get? b = some o')
    (tups : ∀ b xs, H b = some (.tup xs) → H' b = some (.tup xs)) (frzs : ∀ b o u, H b = some (.frz o u) → H' b = some (.frz o u)) (tbls : ∀ b ps, H b = some (.tbl ps) → ∃ more, H' b = some (.tbl (ps ++ more)))
    (ns : ∀ m, s.heap.Ns X.env.locals m → h'.Ns X.env.locals m) (hok : HOk X.prog X.w H' h') (hg : AllBare g') :
    Inv X pins σ H' { s with heap := h', gens := g', drawn := d', toks := t' } := by
  have neL : ∀ b o, X.s₀.heap.get? b = some o → b ≠ X.env.locals := fun b o e => Nat.ne_of_lt (Nat.lt_of_lt_of_le (Heap.lt_size e) I.ok.above)
  have neC : ∀ b o, X.s₀.heap.get? b = some o → b ∉ X.ex → b ∉ ch := fun b o e hx hb => by
    rcases (hch b hb).1 with z | z
    · exact hx z
    · exact absurd (Nat.lt_of_lt_of_le (Heap.lt_size e) z) (Nat.lt_irrefl _)
  have cellK : ∀ x c, X.env.cells.lookup x = some c → ∀ v, s.heap.IsCell c v → h'.IsCell c v := fun x c e v ⟨o, ho, hd⟩ => by
    have nch : c ∉ ch := fun z => (hch c z).2.2.1 x c e rfl
    by_cases hc : c ∈ X.fs
    · obtain ⟨sl, q⟩ := slot c o (I.cne x c e) hc nch ho (I.freeC x c e)
      exact ⟨_, q, hd⟩
    · exact ⟨o, keep c o (I.cne x c e) hc nch ho (I.freeC x c e), hd⟩
  refine ⟨I.ok, I.os, hg, ⟨fun b o e n hb hx => ?_, fun b o e n hb hx => ?_, fun b o e n hx => ?_, fun b o e hx => ?_, fun b xs e => tups b xs (I.base.tups b xs e), fun b o xs e => frzs b o xs (I.base.frzs b o xs e), fun b ps e => ?_⟩, ?_, fun x c e => ?_, ?_, fun x c e => ?_, fun p hp => ?_, hok, I.len⟩
  · exact keep b o (neL b o e) hb (neC b o e hx) (I.base.keep b o e n hb hx) (I.base.free b o e n hx)
  · obtain ⟨sl, e1⟩ := I.base.slot b o e n hb hx
    obtain ⟨sl', e2⟩ := slot b _ (neL b o e) hb (neC b o e hx) e1 (I.base.free b o e n hx)
    exact ⟨sl', e2⟩
  · obtain ⟨o', e1⟩ := I.base.there b o e hx
    exact free b o' (neC b o e hx) e1 (I.base.free b o e n hx)
  · obtain ⟨o', e1⟩ := I.base.there b o e hx
    exact there b o' (neC b o e hx) e1
  · obtain ⟨m1, e1⟩ := I.base.tbls b ps e
    obtain ⟨m2, e2⟩ := tbls b _ e1
    exact ⟨m1 ++ m2, by rw [e2, Array.append_assoc]⟩
  · obtain ⟨m, hn, hl⟩ := I.loc
    refine ⟨m, ns m hn, fun i x v e1 e2 e3 => ?_⟩
    obtain ⟨u, r, l⟩ := hl i x v e1 e2 e3
    refine ⟨u, r, ?_⟩
    rcases l with l | ⟨k, c, e, z⟩
    · exact .inl l
    · exact .inr ⟨k, c, e, cellK x c e _ z⟩
  · obtain ⟨v, z⟩ := I.cell x c e
    exact ⟨v, cellK x c e v z⟩
  · obtain ⟨m, ⟨o, _, _, ho, _⟩, _⟩ := I.loc
    exact free _ o (fun z => (hch _ z).2.1 rfl) ho I.free
  · obtain ⟨v, o, ho, hd⟩ := I.cell x c e
    exact free c o (fun z => (hch c z).2.2.1 x c e rfl) ho (I.freeC x c e)
  · obtain ⟨e, n, ne, nf, d⟩ := I.pin p hp
    have nch : p.1 ∉ ch := fun z => (hch p.1 z).2.2.2 p hp rfl
    exact ⟨keep p.1 p.2 ne nf nch e n, free p.1 p.2 nch e n, ne, nf, d⟩
theorem Inv.un {t' : Nat} (I : Inv X pins σ H s) (u : Un X.fs [] H H' s.heap h') (hok : HOk X.prog X.w H' h') : Inv X pins σ H' { s with heap := h', toks := t' } := by
  obtain ⟨m, ⟨o, es, ep, ho, r⟩, _⟩ := id I.loc
  obtain ⟨sl, hL⟩ := u.any ho I.free (by simp)
  exact I.step (g' := s.gens) (d' := s.drawn) (ch := []) (fun _ z => nomatch z) (fun b o _ hb _ e n => u.keep b o e n hb (by simp)) (fun b o _ hb _ e n => u.slot b o e n hb (by simp)) (fun b o _ e n => u.free b o e n (by simp)) (fun b o _ e => u.there b o e (by simp)) u.tups u.frzs u.tbls (fun m' hm => by
    obtain ⟨o', es', ep', ho', r'⟩ := hm
    rw [ho] at ho'; cases ho'
    exact ⟨_, es', ep', hL, r'⟩) hok I.bare
theorem Inv.call {g' : Array GenState} {t' : Nat} {d' : Drawn} {ch : List Addr} (I : Inv X pins σ H s) (u : Un (frs X.stack) ch H H' s.heap h') (hok : HOk X.prog X.w H' h') (hg : AllBare g')
    (hch : ∀ b ∈ ch, (b ∈ X.ex ∨ X.s₀.heap.objs.size ≤ b) ∧ b ≠ X.env.locals ∧ (∀ x c, X.env.cells.lookup x = some c → c ≠ b) ∧ ∀ p ∈ X.pn ++ pins, p.1 ≠ b) :
    Inv X pins σ H' { s with heap := h', gens := g', drawn := d', toks := t' } := by
  obtain ⟨m, ⟨o, es, ep, ho, r⟩, _⟩ := id I.loc
  obtain ⟨sl, hL⟩ := u.any ho I.free fun z => (hch _ z).2.1 rfl
  exact I.step (ch := ch) hch (fun b o hL hb hc e n => u.keep b o e n (fun z => (List.mem_cons.mp (I.stkSub b z)).elim hL hb) hc) (fun b o _ _ hc e n => u.any e n hc) (fun b o hc e n => u.free b o e n hc) (fun b o hc e => u.there b o e hc) u.tups u.frzs u.tbls (fun m' hm => by
    obtain ⟨o', es', ep', ho', r'⟩ := hm
    rw [ho] at ho'; cases ho'
    exact ⟨_, es', ep', hL, r'⟩) hok hg
theorem Inv.turned {t' : Nat} {it : Addr} (I : Inv X pins σ H s) (k : ∀ b o, b ≠ it → s.heap.get? b = some o → h'.get? b = some o) (hn : H it = none) (hL : it ≠ X.env.locals)
    (h1 : it ∈ X.ex ∨ X.s₀.heap.objs.size ≤ it) (h2 : ∀ x c, X.env.cells.lookup x = some c → c ≠ it) (h3 : ∀ p ∈ X.pn ++ pins, p.1 ≠ it) : Inv X pins σ H { s with heap := h', toks := t' } := by
  have nit : ∀ b u, H b = some u → b ≠ it := fun b u e z => by rw [z, hn] at e; cases e
  refine I.step (g' := s.gens) (d' := s.drawn) (ch := [it]) (fun b hb => ?_) (fun b o _ _ hc e _ => k b o (fun z => hc (by simp [z])) e) (fun b o _ _ hc e _ => ⟨o.slots, k b o (fun z => hc (by simp [z])) e⟩) (fun _ _ _ _ n => n)
    (fun b o hc e => ⟨o, k b o (fun z => hc (by simp [z])) e⟩) (fun _ _ e => e) (fun _ _ _ e => e) (fun b ps e => ⟨#[], by rw [e]; simp⟩) (fun m hm => ?_) (fun b u e => ?_) I.bare
  · have e : b = it := by simpa using hb
    subst e
    exact ⟨h1, hL, h2, h3⟩
  · obtain ⟨o, es, ep, ho, r⟩ := hm
    exact ⟨o, es, ep, k _ o (Ne.symm hL) ho, r⟩
  · refine (I.hok b u e).stay (fun c v hc q => k c v ?_ q) (fun _ q => q) fun _ _ q => q
    rcases hc with z | z
    · rw [z]; exact nit b u e
    · exact nit c _ z
theorem Inv.tok (I : Inv X pins σ H s) (t : Nat) : Inv X pins σ H { s with toks := t } := I.un (h' := s.heap) (t' := t) Un.refl I.hok
theorem Inv.kept {t' : Nat} (I : Inv X pins σ H s) (k : ∀ b u, s.heap.get? b = some u → h'.get? b = some u) : Inv X pins σ H { s with heap := h', toks := t' } := I.un (Un.kept k) (I.hok.kept k)
theorem Inv.laid {a : Addr} {o : HO} {t' : Nat} (I : Inv X pins σ H s) (k : ∀ b u, s.heap.get? b = some u → h'.get? b = some u) (hp : s.heap.objs.size ≤ a) (new : ObjOk X.prog X.w (upd H a o) h' a o) :
    Inv X pins σ (upd H a o) { s with heap := h', toks := t' } := I.un (Un.laid k hp (I.hok.fresh hp)) (I.hok.laid k hp new)
theorem Inv.write {x e : Addr} {o : HO} {t' : Nat} (I : Inv X pins σ H s) (mu : Mut (H x)) (he : e = x ∨ H e = some (.own x)) (k : ∀ b u, b ≠ e → s.heap.get? b = some u → h'.get? b = some u) (heo : ∃ u, h'.get? e = some u)
    (new : ObjOk X.prog X.w (upd H x o) h' x o) : Inv X pins σ (upd H x o) { s with heap := h', toks := t' } := I.un (Un.write mu he k heo) (I.hok.write mu he k heo new)
theorem Inv.weak {σ' : List (Option V)} (I : Inv X pins σ H s) (hl : σ'.length = σ.length) (w : ∀ (i : Nat) v, σ'[i]? = some (some v) → σ[i]? = some (some v)) : Inv X pins σ' H s :=
  ⟨I.ok, I.os, I.bare, I.base, let ⟨m, hn, hl'⟩ := I.loc; ⟨m, hn, fun i x v e1 e2 e3 => hl' i x v e1 (w i v e2) e3⟩, I.cell, I.free, I.freeC, I.pin, I.hok, hl.trans I.len⟩
theorem Inv.pins_of {pins' : List (Addr × Obj)} (I : Inv X pins σ H s) (h : ∀ p ∈ pins', s.heap.get? p.1 = some p.2 ∧ H p.1 = none ∧ p.1 ≠ X.env.locals ∧ p.1 ∉ X.fs ∧ ∀ v, p.2.data ≠ .cell v) : Inv X pins' σ H s :=
  ⟨I.ok, I.os, I.bare, I.base, I.loc, I.cell, I.free, I.freeC, fun p hp => (List.mem_append.mp hp).elim (fun z => I.pin p (List.mem_append_left _ z)) (h p), I.hok, I.len⟩

theorem nodup_ix {N : List Str} (hN : N.Nodup) {i j : Nat} {x : Str} (a : N[i]? = some x) (b : N[j]? = some x) : i = j := by
  obtain ⟨h1, e1⟩ := List.getElem?_eq_some_iff.mp a
  obtain ⟨h2, e2⟩ := List.getElem?_eq_some_iff.mp b
  exact (List.getElem_inj hN).mp (e1.trans e2.symm)

theorem store_ok2 {M : Model} {A : Around} {E : Value → Shared → Prop} {i : Nat} {x : Str} {v : V} {u : Value} {Q : Unit → Shared → Prop} (I : Inv X pins σ H s) (hN : X.N.Nodup) (hi : X.N[i]? = some x) (hx : Loc X.env.scope x) (r : RelV v u)
    (h : ∀ s', Inv X pins (σ.set i (some v)) H s' → (∃ a, Heap.SameBut a s.heap s'.heap ∧ (a = X.env.locals ∨ X.env.cells.lookup x = some a)) → Q () s') (hf : X.fn x = true ∨ X.env.scope.names.lookup x = some .local := by first | exact .inl rfl | exact .inr rfl | assumption) : wpAny M A (storeName X.env x u) Q E s := by
  obtain ⟨m, hn, hl⟩ := id I.loc
  have hcls : (X.env.scope.kind == .class || (X.env.scope.kind == .module && X.env.locals != X.env.globals)) = false := by rw [I.ok.kind]; rfl
  have hiσ : i < σ.length := by rw [I.len]; exact (List.getElem?_eq_some_iff.mp hi).1
  have cne := I.cne
  have tracked : ∀ {a : Addr} {h' : Heap}, (∃ o, s.heap.get? a = some o ∧ H a = none) → Heap.SameBut a s.heap h' → HOk X.prog X.w H h' := fun {a h'} ha hs b ob e => by
    obtain ⟨_, _, hfree⟩ := ha
    refine (I.hok b ob e).stay (fun c w' hc q => (hs.2 c ?_).trans q) (fun _ q => q) fun _ _ q => q
    rintro rfl
    rcases hc with rfl | hc
    · rw [hfree] at e; cases e
    · rw [hfree] at hc; cases hc
  rcases hx with hk | hk
  · refine wpAny_storeName_local hk hn (fun h' hn' hs => ?_) hcls
    obtain ⟨oL, _, _, hoL, _⟩ := id hn
    refine h _ ⟨I.ok, I.os, I.bare, ⟨fun b o e n hb hx => ?_, fun b o e n hb hx => ?_, I.base.free, fun b o e hx => ?_, I.base.tups, I.base.frzs, I.base.tbls⟩, ⟨_, hn', fun j y v' e1 e2 e3 => ?_⟩, fun y c e => ?_, I.free, I.freeC, fun p hp => ?_, tracked ⟨oL, hoL, I.free⟩ hs, by simpa using I.len⟩ ⟨_, hs, .inl rfl⟩
    · exact (hs.2 b (Nat.ne_of_lt (Nat.lt_of_lt_of_le (Heap.lt_size e) I.ok.above))).trans (I.base.keep b o e n hb hx)
    · obtain ⟨sl, e1⟩ := I.base.slot b o e n hb hx
      exact ⟨sl, (hs.2 b (Nat.ne_of_lt (Nat.lt_of_lt_of_le (Heap.lt_size e) I.ok.above))).trans e1⟩
    · obtain ⟨o', e1⟩ := I.base.there b o e hx
      exact ⟨o', (hs.2 b (Nat.ne_of_lt (Nat.lt_of_lt_of_le (Heap.lt_size e) I.ok.above))).trans e1⟩
    · by_cases hj : j = i
      · subst hj
        rw [hi] at e1; cases e1
        rw [List.getElem?_set_self hiσ] at e2
        cases e2
        exact ⟨u, r, .inl ⟨hk, by simp⟩⟩
      · rw [List.getElem?_set_ne (Ne.symm hj)] at e2
        obtain ⟨u', r', q⟩ := hl j y v' e1 e2 e3
        refine ⟨u', r', ?_⟩
        rcases q with ⟨k, e⟩ | ⟨k, c, e, z⟩
        · refine .inl ⟨k, ?_⟩
          have : y ≠ x := fun e => hj (nodup_ix hN e1 (e ▸ hi))
          simp [this, e]
        · exact .inr ⟨k, c, e, z.sameBut hs (cne y c e)⟩
    · obtain ⟨w', z⟩ := I.cell y c e
      exact ⟨w', z.sameBut hs (cne y c e)⟩
    · obtain ⟨e, n, ne, nf, d⟩ := I.pin p hp
      exact ⟨(hs.2 p.1 ne).trans e, n, ne, nf, d⟩
  · have hfn : X.fn x = true := by
      rcases hf with z | z
      · exact z
      · rw [z] at hk; cases hk
    obtain ⟨c, hc⟩ := I.ok.has x (.inl hk)
    obtain ⟨w', z⟩ := I.cell x c hc
    refine wpAny_storeName_cell I.ok.kind hk hc z (fun h' hc' hs => ?_)
    obtain ⟨oc, hoc, hocd⟩ := id z
    refine h { s with heap := h' } ⟨I.ok, I.os, I.bare, ⟨fun b o e n hb hx => ?_, fun b o e n hb hx => ?_, I.base.free, fun b o e hx => ?_, I.base.tups, I.base.frzs, I.base.tbls⟩, ⟨m, hn.sameBut hs (Ne.symm (cne x c hc)), fun j y v' e1 e2 e3 => ?_⟩, fun y c' e => ?_, I.free, I.freeC, fun p hp => ?_, tracked ⟨oc, hoc, I.freeC x c hc⟩ hs, by simpa using I.len⟩ ⟨c, hs, .inr hc⟩
    · exact (hs.2 b (Nat.ne_of_lt (Nat.lt_of_lt_of_le (Heap.lt_size e) (I.ok.cab x c hfn hc)))).trans (I.base.keep b o e n hb hx)
    · obtain ⟨sl, e1⟩ := I.base.slot b o e n hb hx
      exact ⟨sl, (hs.2 b (Nat.ne_of_lt (Nat.lt_of_lt_of_le (Heap.lt_size e) (I.ok.cab x c hfn hc)))).trans e1⟩
    · obtain ⟨o', e1⟩ := I.base.there b o e hx
      exact ⟨o', (hs.2 b (Nat.ne_of_lt (Nat.lt_of_lt_of_le (Heap.lt_size e) (I.ok.cab x c hfn hc)))).trans e1⟩
    · by_cases hj : j = i
      · subst hj
        rw [hi] at e1; cases e1
        rw [List.getElem?_set_self hiσ] at e2
        cases e2
        exact ⟨u, r, .inr ⟨.inl hk, c, hc, hc'⟩⟩
      · rw [List.getElem?_set_ne (Ne.symm hj)] at e2
        obtain ⟨u', r', q⟩ := hl j y v' e1 e2 e3
        refine ⟨u', r', ?_⟩
        rcases q with q | ⟨k, c', e, z'⟩
        · exact .inl q
        · refine .inr ⟨k, c', e, z'.sameBut hs ?_⟩
          rintro rfl
          exact hj (nodup_ix hN e1 (I.ok.inj _ _ _ e hc ▸ hi))
    · by_cases hcc : c' = c
      · subst hcc; exact ⟨_, hc'⟩
      · obtain ⟨w2, z2⟩ := I.cell y c' e
        exact ⟨w2, z2.sameBut hs hcc⟩
    · obtain ⟨e, n, ne, nf, d⟩ := I.pin p hp
      refine ⟨(hs.2 p.1 ?_).trans e, n, ne, nf, d⟩
      intro q
      rw [q, hoc] at e
      have q' : oc = p.2 := Option.some.inj e
      exact d w' (by rw [← q']; exact hocd)
theorem store_ok {M : Model} {A : Around} {E : Value → Shared → Prop} {i : Nat} {x : Str} {v : V} {u : Value} {Q : Unit → Shared → Prop} (I : Inv X pins σ H s) (hN : X.N.Nodup) (hi : X.N[i]? = some x) (hx : Loc X.env.scope x) (r : RelV v u)
    (h : ∀ s', Inv X pins (σ.set i (some v)) H s' → Q () s') (hf : X.fn x = true ∨ X.env.scope.names.lookup x = some .local := by first | exact .inl rfl | exact .inr rfl | assumption) : wpAny M A (storeName X.env x u) Q E s :=
  store_ok2 I hN hi hx r (fun s' I' _ => h s' I') hf
theorem Inv.call' {s' : Shared} {ch : List Addr} (I : Inv X pins σ H s) (ho : s'.os = s.os) (u : Un (frs X.stack) ch H H' s.heap s'.heap) (hok : HOk X.prog X.w H' s'.heap) (hg : AllBare s'.gens)
    (hch : ∀ b ∈ ch, (b ∈ X.ex ∨ X.s₀.heap.objs.size ≤ b) ∧ b ≠ X.env.locals ∧ (∀ x c, X.env.cells.lookup x = some c → c ≠ b) ∧ ∀ p ∈ X.pn ++ pins, p.1 ≠ b) : Inv X pins σ H' s' := by
  obtain ⟨h', g', d', t', o'⟩ := s'
  have e : o' = s.os := ho
  subst e
  exact I.call (g' := g') (t' := t') (d' := d') u hok hg hch
end

abbrev XK := Value → Option Addr → Hp → Prop
abbrev St := List (Option V)
abbrev VK := V → Hp → Prop
abbrev TE := St → Hp → VK → Prop
abbrev TT := St → Hp → (Bool → Hp → Prop) → Prop
abbrev TA := St → Hp → (List V → Hp → Prop) → Prop
structure Ends where
  nx : St → Hp → Prop
  rt : VK
  bk : St → Hp → Prop := fun _ _ => False
  ct : St → Hp → Prop := fun _ _ => False
abbrev TS := Ends → St → Hp → Prop

noncomputable def EP (X : Cx) (pins : List (Addr × Obj)) (σ : St) (Q : VK) (u : Value) (s' : Shared) : Prop := ∃ v H', Inv X pins σ H' s' ∧ RelV v u ∧ Q v H'
noncomputable def TP (X : Cx) (pins : List (Addr × Obj)) (σ : St) (Q : Bool → Hp → Prop) (b : Bool) (s' : Shared) : Prop := ∃ H', Inv X pins σ H' s' ∧ Q b H'
noncomputable def AP (X : Cx) (pins : List (Addr × Obj)) (σ : St) (Q : List V → Hp → Prop) (us : List Value) (s' : Shared) : Prop := ∃ vs H', Inv X pins σ H' s' ∧ Vals vs us ∧ Q vs H'
noncomputable def SP (X : Cx) (pins : List (Addr × Obj)) (D : Ends) (f : Flow) (s' : Shared) : Prop :=
  match f with
  | .next => ∃ σ' H', Inv X pins σ' H' s' ∧ D.nx σ' H'
  | .brk => ∃ σ' H', Inv X pins σ' H' s' ∧ D.bk σ' H'
  | .cont => ∃ σ' H', Inv X pins σ' H' s' ∧ D.ct σ' H'
  | .ret u => ∃ v σ' H', Inv X pins σ' H' s' ∧ RelV v u ∧ D.rt v H'

noncomputable def PE (X : Cx) (e : Expr) (t : TE) : Prop :=
  ∀ (pins : List (Addr × Obj)) (s : Shared) (σ : St) (H : Hp) (Q : VK), Inv X pins σ H s → t σ H Q → wpAny (model X.prog X.w) X.A (eval e X.env) (EP X pins σ Q) X.xe s
noncomputable def PT (X : Cx) (e : Expr) (t : TT) : Prop :=
  ∀ (pins : List (Addr × Obj)) (s : Shared) (σ : St) (H : Hp) (Q : Bool → Hp → Prop), Inv X pins σ H s → t σ H Q → wpAny (model X.prog X.w) X.A (isTrue e X.env (eval e X.env)) (TP X pins σ Q) X.xe s
noncomputable def PW (X : Cx) (e : Expr) (t : TT) : Prop :=
  ∀ (whole : Sem Value) (pins : List (Addr × Obj)) (s : Shared) (σ : St) (H : Hp) (Q : Bool → Hp → Prop), Inv X pins σ H s → t σ H Q → wpAny (model X.prog X.w) X.A (isTrue e X.env whole) (TP X pins σ Q) X.xe s
theorem PW.pt {X : Cx} {e : Expr} {t : TT} (h : PW X e t) : PT X e t := h _
noncomputable def PA (X : Cx) (es : List Expr) (t : TA) : Prop :=
  ∀ (pos : Pos) (pins : List (Addr × Obj)) (s : Shared) (σ : St) (H : Hp) (Q : List V → Hp → Prop), Inv X pins σ H s → t σ H Q → wpAny (model X.prog X.w) X.A (spliced (backTo pos (starEach es X.env))) (AP X pins σ Q) X.xe s
noncomputable def PS (X : Cx) (st : Stmt) (t : TS) : Prop :=
  ∀ (pins : List (Addr × Obj)) (s : Shared) (σ : St) (H : Hp) (D : Ends), Inv X pins σ H s → t D σ H → wpAny (model X.prog X.w) X.A (exec st X.env) (SP X pins D) X.xe s
noncomputable def PSs (X : Cx) (st : List Stmt) (t : TS) : Prop :=
  ∀ (pins : List (Addr × Obj)) (s : Shared) (σ : St) (H : Hp) (D : Ends), Inv X pins σ H s → t D σ H → wpAny (model X.prog X.w) X.A (execs st X.env) (SP X pins D) X.xe s
theorem thn {α : Type} {t : Sem α} {Q Q' : α → Shared → Prop} {M : Model} {A : Around} {E : Value → Shared → Prop} {s : Shared} (h : wpAny M A t Q E s) (hQ : ∀ a s, Q a s → Q' a s) : wpAny M A t Q' E s := wpAny_mono h hQ fun _ _ x => x
end L2

namespace L2
open PySem PySem.Spec PyProof.Rows
section
variable {X : Cx}


noncomputable def tVar (i : Nat) : TE := fun σ H Q => ∃ v, σ[i]? = some (some v) ∧ Q v H
noncomputable def tC (v : V) : TE := fun _ H Q => Q v H
theorem pe_var {i : Nat} {x : Str} {pos : Pos} (hN : X.N[i]? = some x) (hv : Vis X.env.scope x) (hd : (x == ("__debug__" : Str)) = false := by decide) (hcd : (x == ("__classdict__" : Str)) = false := by decide) : PE X (.Name x pos) (tVar i) := by
  intro pins s σ H Q I h
  obtain ⟨v, e, h⟩ := h
  obtain ⟨m, hn, hl⟩ := I.loc
  obtain ⟨u, r, l⟩ := hl i x v hN e hv
  have fin : EP X pins σ Q u s := ⟨v, H, I, r, h⟩
  rcases l with ⟨hk, hm⟩ | ⟨hk, c, hc, hcell⟩
  · exact wpAny_Name (wpAny_loadName_local I.ok.kind hk hn hm fin) hd
  · rcases hk with hk | hk
    · exact wpAny_Name (wpAny_loadName_cell I.ok.kind hk hc hcell fin) hd
    · exact wpAny_Name (wpAny_loadName_free I.ok.kind hk hc hcell fin hcd) hd
theorem pe_int {i j pos} : PE X (.Constant (.int i) j pos) (tC (.int i)) := fun _ _ _ H _ I h => wpAny_Constant_int ⟨.int i, H, I.tok _, ⟨_, rfl⟩, h⟩
theorem pe_bl {b j pos} : PE X (.Constant (.bool b) j pos) (tC (.bl b)) := fun _ _ _ H _ I h => Constant_bool ⟨.bl b, H, I, rfl, h⟩
theorem pe_non {j pos} : PE X (.Constant .none j pos) (tC .non) := fun _ _ _ H _ I h => Constant_none ⟨.non, H, I, rfl, h⟩
theorem pe_str {x j pos} : PE X (.Constant (.str x) j pos) (tC (.str x)) := fun _ _ _ H _ I h => Calls.Constant_str ⟨.str x, H, I.tok _, ⟨_, rfl⟩, h⟩

noncomputable def Gl (X : Cx) (x : Str) : Prop := X.env.kindOf x = some .globalImplicit
theorem ld_glob {E : Value → Shared → Prop} {pins : List (Addr × Obj)} {s : Shared} {σ : St} {H : Hp} {x : Str} {u : Value} {pos : Pos} {Q : Value → Shared → Prop} (I : Inv X pins σ H s) (hg : Gl X x) (hm : X.mg x = some u) (h : Q u s)
    (hd : (x == ("__debug__" : Str)) = false := by decide) : wpAny (model X.prog X.w) X.A (eval (.Name x pos) X.env) Q E s :=
  Calls.Name_function_global I.ok.kind hg (Calls.loadGlobal_global (by rw [I.ok.glob]; exact I.mod.glob.keeps I.bk) hm h) hd
theorem ld_blt {E : Value → Shared → Prop} {pins : List (Addr × Obj)} {s : Shared} {σ : St} {H : Hp} {x : Str} {u : Value} {pos : Pos} {Q : Value → Shared → Prop} (I : Inv X pins σ H s) (hg : Gl X x) (hm : X.mg x = none) (hv : bootBuiltins x = some u) (h : Q u s)
    (hn : x ≠ "__name__" := by decide) (hd : (x == ("__debug__" : Str)) = false := by decide) : wpAny (model X.prog X.w) X.A (eval (.Name x pos) X.env) Q E s := by
  obtain ⟨mb, h1, h2⟩ := I.mod.blt
  exact Calls.Name_function_global I.ok.kind hg (Calls.loadGlobal_builtin (by rw [I.ok.glob]; exact I.mod.glob.keeps I.bk) hm (by rw [I.ok.blt]; exact h1.keeps I.bk) ((h2 x hn).trans hv) h) hd
theorem pe_glob {x : Str} {v : V} {u : Value} {pos : Pos} (hg : Gl X x) (hm : X.mg x = some u) (r : RelV v u) (hd : (x == ("__debug__" : Str)) = false := by decide) : PE X (.Name x pos) (tC v) :=
  fun _ _ _ H _ I h => ld_glob I hg hm ⟨v, H, I, r, h⟩ hd
theorem pe_bltn {x : Str} {v : V} {u : Value} {pos : Pos} (hg : Gl X x) (hm : X.mg x = none) (hv : bootBuiltins x = some u) (r : RelV v u) (hn : x ≠ "__name__" := by decide) (hd : (x == ("__debug__" : Str)) = false := by decide) : PE X (.Name x pos) (tC v) :=
  fun _ _ _ H _ I h => ld_blt I hg hm hv ⟨v, H, I, r, h⟩ hn hd

variable {a b : Expr} {ta tb : TE} {pos : Pos}

noncomputable def tB (t : TE) : TT := fun σ H Q => t σ H fun x H1 => ∃ c, x = .bl c ∧ Q c H1
theorem pt_val {e : Expr} {t : TE} (h : PE X e t) (he : ∀ whole, isTrue e X.env whole = (do let v ← whole; standAt e.pos; holding [v] (truthy v)) := by intro _; rfl) : PT X e (tB t) := by
  intro pins s σ H Q I hw
  refine isTrue_plain (thn (h pins s σ H _ I hw) fun v s1 ⟨x, H1, I1, r1, q1⟩ => ?_) (he _)
  obtain ⟨d, rfl, q⟩ := q1
  cases r1
  exact wpAny_truthy_bool ⟨H1, I1, q⟩

variable {tA tB' : TT} {rest : List Expr}
noncomputable def tAnd (t u : TT) : TT := fun σ H Q => t σ H fun c H1 => if c = true then u σ H1 Q else Q false H1
noncomputable def tOr (t u : TT) : TT := fun σ H Q => t σ H fun c H1 => if c = true then Q true H1 else u σ H1 Q
noncomputable def tNot (t : TT) : TT := fun σ H Q => t σ H fun c H1 => Q (!c) H1
theorem pw_and1 (ha : PT X a tA) : PW X (.BoolOp .And [a] pos) tA := by
  intro wh pins s σ H Q I h
  refine isTrue_and (thn (ha pins s σ H Q I h) fun c s1 e => ?_)
  cases c with
  | true => exact isTrue_and_nil e
  | false => exact e
theorem pw_or1 (ha : PT X a tA) : PW X (.BoolOp .Or [a] pos) tA := by
  intro wh pins s σ H Q I h
  refine isTrue_or (thn (ha pins s σ H Q I h) fun c s1 e => ?_)
  cases c with
  | false => exact isTrue_or_nil e
  | true => exact e
theorem pw_and (ha : PT X a tA) (hb : PW X (.BoolOp .And (b :: rest) pos) tB') : PW X (.BoolOp .And (a :: b :: rest) pos) (tAnd tA tB') := by
  intro wh pins s σ H Q I h
  refine isTrue_and (thn (ha pins s σ H _ I h) fun c s1 ⟨H1, I1, q1⟩ => ?_)
  cases c with
  | true => exact hb wh pins s1 σ H1 Q I1 q1
  | false => exact ⟨H1, I1, q1⟩
theorem pw_or (ha : PT X a tA) (hb : PW X (.BoolOp .Or (b :: rest) pos) tB') : PW X (.BoolOp .Or (a :: b :: rest) pos) (tOr tA tB') := by
  intro wh pins s σ H Q I h
  refine isTrue_or (thn (ha pins s σ H _ I h) fun c s1 ⟨H1, I1, q1⟩ => ?_)
  cases c with
  | true => exact ⟨H1, I1, q1⟩
  | false => exact hb wh pins s1 σ H1 Q I1 q1
theorem pt_not (ha : PT X a tA) : PT X (.UnaryOp .Not a pos) (tNot tA) := by
  intro pins s σ H Q I h
  exact isTrue_not (ha pins s σ H (fun c H1 => Q (!c) H1) I h)
noncomputable def tAndV (ta tb : TE) : TE := fun σ H Q => ta σ H fun x H1 => ∃ c, x = .bl c ∧ if c = true then tb σ H1 Q else Q (.bl false) H1
noncomputable def tOrV (ta tb : TE) : TE := fun σ H Q => ta σ H fun x H1 => ∃ c, x = .bl c ∧ if c = true then Q (.bl true) H1 else tb σ H1 Q
noncomputable def tNotV (ta : TE) : TE := fun σ H Q => ta σ H fun x H1 => ∃ c, x = .bl c ∧ Q (.bl (!c)) H1
theorem pe_one {op} {t : TE} (h : PE X a t) : PE X (.BoolOp op [a] pos) t := fun pins s σ H Q I hw => BoolOp_one (h pins s σ H Q I hw)
theorem pe_and (ha : PE X a ta) (hb : PE X (.BoolOp .And (b :: rest) pos) tb) : PE X (.BoolOp .And (a :: b :: rest) pos) (tAndV ta tb) := by
  intro pins s σ H Q I h
  refine BoolOp_and (thn (ha pins s σ H _ I h) fun v s1 ⟨x, H1, I1, r1, q1⟩ => ?_)
  obtain ⟨c, rfl, q1⟩ := q1
  cases r1
  refine wpAny_truthy_bool ?_
  cases c with
  | true => exact hb pins s1 σ H1 Q I1 q1
  | false => exact ⟨.bl false, H1, I1, rfl, q1⟩
noncomputable def tIf (t : TT) (ta tb : TE) : TE := fun σ H Q => t σ H fun c H1 => if c = true then ta σ H1 Q else tb σ H1 Q
end
end L2

namespace L2
open PySem PySem.Spec PyProof.Rows

noncomputable def SqL (K : PySem.W.Frag) (H : Hp) (a : Addr) (xs : List V) : Prop :=
  Rd H a (.lst xs) ∨
    ∃ (o : Obj) (its : Array Value) (n : Nat), K.lookup a = some o ∧ o.cls = .type "list" ∧ o.dict = none ∧ o.data = .seq its n ∧ its.size ≤ sizeLine ∧ Vals xs its.toList
noncomputable def SqT (K : PySem.W.Frag) (H : Hp) (a : Addr) (xs : List V) : Prop :=
  Rd H a (.tup xs) ∨
    ∃ (o : Obj) (its : Array Value) (n : Nat), K.lookup a = some o ∧ o.cls = .type "tuple" ∧ o.data = .seq its n ∧ its.size ≤ sizeLine ∧ Vals xs its.toList
noncomputable def absV : Value → Option V
  | .none => some .non
  | .bool b => some (.bl b)
  | .int i _ => some (.int i)
  | .str x _ => some (.str x)
  | .bytes b _ => some (.byt b)
  | .float b _ => some (.flt b)
  | .ref a => some (.ref a)
  | .type n => some (.ty n)
  | _ => none
theorem RelV.abs {x : V} {u : Value} (r : RelV x u) : absV u = some x := by
  cases x with
  | non => cases r; rfl
  | bl _ => cases r; rfl
  | int _ => obtain ⟨t, rfl⟩ := r; rfl
  | str _ => obtain ⟨t, rfl⟩ := r; rfl
  | byt _ => obtain ⟨t, rfl⟩ := r; rfl
  | flt _ => obtain ⟨t, rfl⟩ := r; rfl
  | ref _ => cases r; rfl
  | ty _ => cases r; rfl
theorem RelV.inj {x y : V} {u : Value} (r : RelV x u) (q : RelV y u) : x = y := Option.some.inj (r.abs.symm.trans q.abs)
theorem Vals.inj : ∀ {xs ys : List V} {us : List Value}, Vals xs us → Vals ys us → xs = ys
  | _, _, _, .nil, .nil => rfl
  | _, _, _, .cons r t, .cons r' t' => by rw [r.inj r', Vals.inj t t']
section
variable {X : Cx} {pins : List (Addr × Obj)} {σ : St} {H : Hp} {s : Shared} {a : Addr} {xs ys : List V}
theorem SqL.of {K : PySem.W.Frag} (h : H a = some (.lst xs)) : SqL K H a xs := .inl (.inl h)
theorem SqT.of {K : PySem.W.Frag} (h : H a = some (.tup xs)) : SqT K H a xs := .inl (.inl h)
theorem Inv.list (I : Inv X pins σ H s) (h : SqL X.K H a xs) : ∃ its : List Value, Vals xs its ∧ PlainL s.heap a its.toArray ∧ xs.length ≤ sizeLine := by
  rcases h with h | ⟨o, its, n, hk, hc, hd, hs, hz, r⟩
  · obtain ⟨z, its, n, r, e⟩ := h.ok I.hok
    exact ⟨its, r, ⟨_, n, e, rfl, rfl, rfl⟩, z⟩
  · refine ⟨its.toList, r, ⟨o, n, I.kIn a o hk, hc, hd, by simpa using hs⟩, ?_⟩
    have e := r.length
    simp only [Array.length_toList] at e
    omega
theorem Inv.tuple (I : Inv X pins σ H s) (h : SqT X.K H a xs) : ∃ its : List Value, Vals xs its ∧ IsTup s.heap a its.toArray ∧ xs.length ≤ sizeLine := by
  rcases h with h | ⟨o, its, n, hk, hc, hs, hz, r⟩
  · obtain ⟨z, its, r, p⟩ := h.ok I.hok
    exact ⟨its, r, p, z⟩
  · refine ⟨its.toList, r, ⟨o, I.kIn a o hk, hc, n, by simpa using hs⟩, ?_⟩
    have e := r.length
    simp only [Array.length_toList] at e
    omega
theorem Inv.list_inj (I : Inv X pins σ H s) (h : SqL X.K H a xs) (h' : SqL X.K H a ys) : xs = ys := by
  obtain ⟨its, r, ⟨o, n, e, _, _, d⟩, _⟩ := I.list h
  obtain ⟨its', r', ⟨o', n', e', _, _, d'⟩, _⟩ := I.list h'
  rw [e] at e'; cases e'
  rw [d] at d'
  injection d' with d1 _
  have : its = its' := by simpa using congrArg Array.toList d1
  subst this
  exact r.inj r'
theorem Inv.tuple_inj (I : Inv X pins σ H s) (h : SqT X.K H a xs) (h' : SqT X.K H a ys) : xs = ys := by
  obtain ⟨its, r, ⟨o, e, _, n, d⟩, _⟩ := I.tuple h
  obtain ⟨its', r', ⟨o', e', _, n', d'⟩, _⟩ := I.tuple h'
  rw [e] at e'; cases e'
  rw [d] at d'
  injection d' with d1 _
  have : its = its' := by simpa using congrArg Array.toList d1
  subst this
  exact r.inj r'
end

abbrev Cx.wish (X : Cx) (E : Value → Shared → Prop) : Cx := { X with xe := E }
abbrev Cx.nox (X : Cx) : Cx := X.wish fun _ _ => False
theorem Cx.Ok.wish {X : Cx} (ok : X.Ok) (E : Value → Shared → Prop) : (X.wish E).Ok :=
  ⟨ok.mod, ok.kind, ok.glob, ok.blt, ok.above, ok.inj, ok.has, ok.cab, ok.hd, ok.frames, ok.stk, ok.exf, ok.bs, ok.bsz, ok.noex, ok.exfs, ok.funs, ok.frf⟩
theorem Cx.Ok.unwish {X : Cx} {E : Value → Shared → Prop} (ok : (X.wish E).Ok) : X.Ok :=
  ⟨ok.mod, ok.kind, ok.glob, ok.blt, ok.above, ok.inj, ok.has, ok.cab, ok.hd, ok.frames, ok.stk, ok.exf, ok.bs, ok.bsz, ok.noex, ok.exfs, ok.funs, ok.frf⟩
section
variable {X : Cx} {pins : List (Addr × Obj)} {σ : St} {H : Hp} {s : Shared} {E : Value → Shared → Prop}
theorem Inv.wish (I : Inv X pins σ H s) (E : Value → Shared → Prop) : Inv (X.wish E) pins σ H s := ⟨I.ok.wish E, I.os, I.bare, I.base, I.loc, I.cell, I.free, I.freeC, I.pin, I.hok, I.len⟩
theorem Inv.unwish (I : Inv (X.wish E) pins σ H s) : Inv X pins σ H s := ⟨I.ok.unwish, I.os, I.bare, I.base, I.loc, I.cell, I.free, I.freeC, I.pin, I.hok, I.len⟩
theorem SP.unwish {D : Ends} {f : Flow} {s' : Shared} (h : SP (X.wish E) pins D f s') : SP X pins D f s' := by
  cases f with
  | next => obtain ⟨σ', H', I, q⟩ := h; exact ⟨σ', H', I.unwish, q⟩
  | brk => obtain ⟨σ', H', I, q⟩ := h; exact ⟨σ', H', I.unwish, q⟩
  | cont => obtain ⟨σ', H', I, q⟩ := h; exact ⟨σ', H', I.unwish, q⟩
  | ret u => obtain ⟨v, σ', H', I, r, q⟩ := h; exact ⟨v, σ', H', I.unwish, r, q⟩
theorem PSs.nox {st : List Stmt} {t : TS} (h : PSs X.nox st t) : PSs X st t := fun pins s σ H D I hw =>
  wpAny_mono (h pins s σ H D (I.wish _) hw) (fun _ _ q => q.unwish) fun _ _ z => False.elim z
end

section
variable {X : Cx} {st : Stmt} {rest : List Stmt} {t u : TS} {e : Expr} {te : TE} {pos : Pos}
noncomputable def tNext : TS := fun D σ H => D.nx σ H
noncomputable def tSeq (t u : TS) : TS := fun D σ H => t { D with nx := u D } σ H
theorem pss_nil : PSs X [] tNext := fun _ _ σ H _ I h => wpAny_execs_nil ⟨σ, H, I, h⟩
theorem pss_cons (h1 : PS X st t) (h2 : PSs X rest u) : PSs X (st :: rest) (tSeq t u) := by
  intro pins s σ H D I h
  refine wpAny_execs_cons (thn (h1 pins s σ H { D with nx := u D } I h) fun f s1 q => ?_)
  cases f with
  | next =>
    obtain ⟨σ', H', I', q⟩ := q
    exact h2 pins s1 σ' H' D I' q
  | ret v => exact q
  | brk => exact q
  | cont => exact q
theorem pss_one (h1 : PS X st t) : PSs X [st] t := by
  intro pins s σ H D I h
  refine wpAny_execs_cons (thn (h1 pins s σ H D I h) fun f s1 q => ?_)
  cases f with
  | next => exact wpAny_execs_nil q
  | ret v => exact q
  | brk => exact q
  | cont => exact q
theorem Inv.quiet {pins : List (Addr × Obj)} {σ : St} {H : Hp} {s : Shared} (I : Inv X pins σ H s) : interactive X.env = false := by simp [interactive, I.ok.kind]
noncomputable def tDrop (te : TE) : TS := fun D σ H => te σ H fun _ H1 => D.nx σ H1
theorem ps_expr (he : PE X e te) (hs : swapsWith e none pos.line X.env = pure false := by rfl) : PS X (.Expr e pos) (tDrop te) := by
  intro pins s σ H D I h
  exact wpAny_Expr_any (thn (he pins s σ H _ I h) fun v s1 ⟨x, H1, I1, r1, q1⟩ => ⟨σ, H1, I1, q1⟩) I.quiet hs
noncomputable def tRet (te : TE) : TS := fun D σ H => te σ H D.rt
theorem ps_ret (he : PE X e te) : PS X (.Return (some e) pos) (tRet te) := by
  intro pins s σ H D I h
  exact wpAny_Return_some (thn (he pins s σ H _ I h) fun v s1 ⟨x, H1, I1, r1, q1⟩ => ⟨x, σ, H1, I1, r1, q1⟩)
noncomputable def tIfS (c : TT) (t u : TS) : TS := fun D σ H => c σ H fun b H1 => if b = true then t D σ H1 else u D σ H1
theorem ps_if {c : Expr} {a b : List Stmt} {tc : TT} (hc : PT X c tc) (ha : PSs X a t) (hb : PSs X b u) : PS X (.If c a b pos) (tIfS tc t u) := by
  intro pins s σ H D I h
  refine wpAny_If (thn (hc pins s σ H _ I h) fun d s1 ⟨H1, I1, q1⟩ => ?_)
  cases d with
  | true => exact ha pins s1 σ H1 D I1 q1
  | false => exact hb pins s1 σ H1 D I1 q1
end

abbrev TG := V → St → Hp → (St → Hp → Prop) → Prop
abbrev TGs := List V → St → Hp → (St → Hp → Prop) → Prop
noncomputable def PG (X : Cx) (target : Expr) (t : TG) : Prop :=
  ∀ (pins : List (Addr × Obj)) (s : Shared) (σ : St) (H : Hp) (v : V) (u : Value) (Q : St → Hp → Prop), Inv X pins σ H s → RelV v u → t v σ H Q →
    wpAny (model X.prog X.w) X.A (assign target X.env u) (fun _ s' => ∃ σ' H', Inv X pins σ' H' s' ∧ Q σ' H') X.xe s
noncomputable def PGs (X : Cx) (ts : List Expr) (t : TGs) : Prop :=
  ∀ (pins : List (Addr × Obj)) (s : Shared) (σ : St) (H : Hp) (vs : List V) (us : List Value) (Q : St → Hp → Prop), Inv X pins σ H s → Vals vs us → t vs σ H Q →
    wpAny (model X.prog X.w) X.A (assignInOrder ((assignEach ts X.env).map (·.2)) us) (fun _ s' => ∃ σ' H', Inv X pins σ' H' s' ∧ Q σ' H') X.xe s
abbrev TSet := V → V → V → Hp → (Hp → Prop) → Prop
noncomputable def PSet (X : Cx) (t : TSet) : Prop :=
  ∀ (pins : List (Addr × Obj)) (s : Shared) (σ : St) (H : Hp) (o i v : V) (ov iv u : Value) (Q : Hp → Prop), Inv X pins σ H s → RelV o ov → RelV i iv → RelV v u → t o i v H Q →
    wpAny (model X.prog X.w) X.A (setItem ov iv u) (fun _ s' => ∃ H', Inv X pins σ H' s' ∧ Q H') X.xe s
section
variable {X : Cx} {pos : Pos}
noncomputable def gName (i : Nat) : TG := fun v σ H Q => Q (σ.set i (some v)) H
theorem pg_name {i : Nat} {x : Str} (hN : X.N.Nodup) (hi : X.N[i]? = some x) (hx : Loc X.env.scope x) (hf : X.fn x = true ∨ X.env.scope.names.lookup x = some .local := by first | exact .inl rfl | exact .inr rfl | assumption) : PG X (.Name x pos) (gName i) := by
  intro pins s σ H v u Q I r h
  exact wpAny_assign_Name (store_ok I hN hi hx r (fun s' I' => ⟨_, H, I', h⟩) hf)
noncomputable def gNil : TGs := fun vs σ H Q => vs = [] ∧ Q σ H
noncomputable def gCons (t : TG) (u : TGs) : TGs := fun vs σ H Q => ∃ v r, vs = v :: r ∧ t v σ H fun σ' H' => u r σ' H' Q
theorem pgs_nil : PGs X [] gNil := by
  intro pins s σ H vs us Q I r h
  obtain ⟨e, h⟩ := h
  subst e
  cases r
  exact assignInOrder_nil ⟨σ, H, I, h⟩
theorem pgs_cons {e : Expr} {es : List Expr} {t : TG} {u : TGs} (h1 : PG X e t) (h2 : PGs X es u)
    (hs : (assignEach (e :: es) X.env).map (·.2) = assign e X.env :: (assignEach es X.env).map (·.2) := by rfl) : PGs X (e :: es) (gCons t u) := by
  intro pins s σ H vs us Q I r h
  obtain ⟨v, vr, e1, h⟩ := h
  subst e1
  cases r with
  | cons r rr =>
    rw [hs]
    refine assignInOrder_cons (thn (h1 pins s σ H _ _ _ I r h) fun _ s1 ⟨σ1, H1, I1, q1⟩ => ?_)
    exact h2 pins s1 σ1 H1 _ _ Q I1 rr q1
noncomputable def gTup (K : PySem.W.Frag) (n : Nat) (t : TGs) : TG := fun v σ H Q => ∃ a xs, v = .ref a ∧ SqT K H a xs ∧ xs.length = n ∧ t xs σ H Q
theorem pg_tup {es : List Expr} {k : Nat} {t : TGs} {n : Nat} (hc : X.calm = true) (h : PGs X es t)
    (hn : (assignEach es X.env).length = n := by rfl) (hst : (assignEach es X.env).findIdx? (·.1) = none := by rfl) : PG X (.Tuple es k pos) (gTup X.K n t) := by
  intro pins s σ H v u Q I r hw
  obtain ⟨a, xs, e1, hq, hl, hw⟩ := hw
  subst e1
  cases r
  obtain ⟨its, rv, ht, hz⟩ := I.tuple hq
  refine assign_Tuple_tuple (I.ok.hd hc) ht (by simp [hn, ← hl, rv.length]) hst fun h' hx => ?_
  have I1 : Inv X pins σ H { s with heap := h' } := I.kept (t' := s.toks) fun b o e => hx b o (Nat.ne_of_lt (Heap.lt_size e)) e
  exact h pins _ σ H xs _ Q I1 (by simpa using rv) hw
noncomputable def gSub (to ti : TE) (t : TSet) : TG := fun v σ H Q => to σ H fun o H1 => ti σ H1 fun i H2 => t o i v H2 fun H3 => Q σ H3
theorem pg_sub {o i : Expr} {to ti : TE} {t : TSet} (ho : PE X o to) (hi : PE X i ti) (hs : PSet X t)
    (ha : ∀ v, assign (.Subscript o i pos) X.env v = (do
      let ov ← holding [v] (eval o X.env)
      let iv ← holding [v, ov] (eval i X.env)
      standAt pos
      holding [v, ov, iv] (setItem ov iv v)
      release [v, ov, iv] []) := by intro _; rfl) : PG X (.Subscript o i pos) (gSub to ti t) := by
  intro pins s σ H v u Q I r h
  rw [ha]
  refine wpAny_bind (wpAny_holding (thn (ho pins s σ H _ I h) fun ov s1 ⟨x, H1, I1, r1, q1⟩ => ?_))
  refine wpAny_bind (wpAny_holding (thn (hi pins s1 σ H1 _ I1 q1) fun iv s2 ⟨y, H2, I2, r2, q2⟩ => ?_))
  refine wpAny_bind (wpAny_standAt (wpAny_bind (wpAny_holding (thn (hs pins s2 σ H2 x y v ov iv u _ I2 r1 r2 r q2) fun _ s3 ⟨H3, I3, q3⟩ => ?_))))
  exact wpAny_release ⟨σ, H3, I3, q3⟩
noncomputable def tAsg (te : TE) (g : TG) : TS := fun D σ H => te σ H fun x H1 => g x σ H1 D.nx
theorem ps_asg {tg e : Expr} {te : TE} {g : TG} (he : PE X e te) (hg : PG X tg g) (hs : swapsWithSole [tg] e pos.line X.env = pure false := by rfl) (hw : swappedStores [tg] e X.env = pure none := by rfl)
    (h1 : (assignEach [tg] X.env).map (·.2) = [assign tg X.env] := by rfl) : PS X (.Assign [tg] e pos) (tAsg te g) := by
  intro pins s σ H D I h
  refine wpAny_Assign_stores (thn (he pins s σ H _ I h) fun v s1 ⟨x, H1, I1, r1, q1⟩ => ?_) hs hw
  rw [h1]
  exact thn (hg pins s1 σ H1 x v _ I1 r1 q1) fun _ s2 q => q
theorem ps_set {i : Nat} {x : Str} {e : Expr} {te : TE} {pos' : Pos} (hN : X.N.Nodup) (hi : X.N[i]? = some x) (hx : Loc X.env.scope x) (he : PE X e te) (hs : swapsWith e (some (.Name x pos')) pos.line X.env = pure false := by rfl) (hf : X.fn x = true ∨ X.env.scope.names.lookup x = some .local := by first | exact .inl rfl | exact .inr rfl | assumption) :
    PS X (.Assign [.Name x pos'] e pos) (tAsg te (gName i)) := by
  intro pins s σ H D I h
  refine wpAny_Assign_Name (thn (he pins s σ H _ I h) fun v s1 ⟨y, H1, I1, r1, q1⟩ => ?_) hs
  exact store_ok I1 hN hi hx r1 (fun s2 I2 => ⟨_, H1, I2, q1⟩) hf
end

section
variable {X : Cx} {pos : Pos}
noncomputable def tWhile (c : TT) (tb : TS) : TS := fun D σ H => ∃ W : Nat → St → Hp → Prop, (∃ m, W m σ H) ∧ ∀ m σ H, W m σ H →
  c σ H fun b H1 => if b = true then ∃ N : St → Hp → Prop, (∀ σ' H', N σ' H' → ∃ m', m' < m ∧ W m' σ' H') ∧ tb { D with nx := N, ct := N, bk := D.nx } σ H1 else D.nx σ H1
theorem ps_while {c : Expr} {body : List Stmt} {tc : TT} {tb : TS} (hp : PassesOwn (model X.prog X.w) X.A X.env X.xe) (hc : PT X c tc) (hb : PSs X body tb) : PS X (.While c body [] pos) (tWhile tc tb) := by
  intro pins s σ H D I h
  obtain ⟨W, ⟨m0, w0⟩, turn⟩ := h
  refine wpAny_While (codeAny_whileLoop (fun n s' => ∃ σ' H', Inv X pins σ' H' s' ∧ W n σ' H') ?_ m0 ⟨σ, H, I, w0⟩)
  rintro n s1 ⟨σ1, H1, I1, w1⟩
  refine wpAny_passesOwn hp (thn (hc pins s1 σ1 H1 _ I1 (turn n σ1 H1 w1)) fun b s2 ⟨H2, I2, q2⟩ => ?_)
  cases b with
  | true =>
    obtain ⟨N, hN, q2⟩ := q2
    rw [if_pos rfl]
    refine wpAny_passesOwn hp (thn (hb pins s2 σ1 H2 _ I2 q2) fun f s3 q3 => ?_)
    cases f with
    | next =>
      obtain ⟨σ3, H3, I3, n3⟩ := q3
      obtain ⟨m', hm, w3⟩ := hN σ3 H3 n3
      exact ⟨m', hm, σ3, H3, I3, w3⟩
    | cont =>
      obtain ⟨σ3, H3, I3, n3⟩ := q3
      obtain ⟨m', hm, w3⟩ := hN σ3 H3 n3
      exact ⟨m', hm, σ3, H3, I3, w3⟩
    | brk => exact q3
    | ret v => exact q3
  | false =>
    rw [if_neg Bool.false_ne_true]
    exact wpAny_execs_nil ⟨σ1, H2, I2, q2⟩
end

structure It where
  go : Nat → Hp → Prop
  yld : Nat → Hp → V → Hp → Prop
  stop : Nat → Hp → Prop
noncomputable def FpOk (X : Cx) (pins : List (Addr × Obj)) (H : Hp) (b : Addr) : Prop :=
  H b = none ∧ b ≠ X.env.locals ∧ b ∉ X.fs ∧ (b ∈ X.ex ∨ X.s₀.heap.objs.size ≤ b) ∧ (∀ x c, X.env.cells.lookup x = some c → c ≠ b) ∧ ∀ p ∈ X.pn ++ pins, p.1 ≠ b
theorem Inv.fpOk {X : Cx} {pins : List (Addr × Obj)} {σ : St} {H H' : Hp} {s : Shared} {b : Addr} (I : Inv X pins σ H s) (hb : s.heap.objs.size ≤ b) (hn : H' b = none) : FpOk X pins H' b := by
  refine ⟨hn, Nat.ne_of_gt (Nat.lt_of_lt_of_le I.lt hb), I.nofs hb, .inr (Nat.le_trans I.sz hb), fun x c e z => ?_, fun p hp z => ?_⟩
  · obtain ⟨v, q⟩ := I.cell x c e
    exact absurd (Nat.lt_of_lt_of_le q.lt (by rw [z]; exact hb)) (Nat.lt_irrefl _)
  · exact absurd (Nat.lt_of_lt_of_le (Heap.lt_size (I.pin p hp).1) (by rw [z]; exact hb)) (Nat.lt_irrefl _)
structure Turn (P : Program) (w : World) (K : PySem.W.Frag) (tg : Expr) (J : It) (fp : List Addr) (it : Addr) (tn : Nat → Heap → Prop) : Prop where
  mem : it ∈ fp
  obj : ∀ i h, tn i h → ∀ b ∈ fp, ∃ o, h.get? b = some o ∧ ∀ v, o.data ≠ .cell v
  keep : ∀ i h h', tn i h → (∀ b ∈ fp, ∀ o, h.get? b = some o → h'.get? b = some o) → tn i h'
  item : ∀ (X : Cx), X.prog = P → X.w = w → X.K = K → X.calm = true → ∀ (i : Nat) (pins : List (Addr × Obj)) (s : Shared) (σ : St) (H : Hp) (E : Value → Shared → Prop), Inv X pins σ H s → (∀ b ∈ fp, FpOk X pins H b) → tn i s.heap → J.go i H →
    wpAny (model P w) X.A (pyNext (.ref it)) (fun r s1 => ∃ u, r = some u ∧
      wpAny (model P w) X.A (letOwnedTupleGo tg (.ref it) u) (fun _ s2 => ∃ x H', Inv X pins σ H' s2 ∧ RelV x u ∧ J.yld i H x H' ∧ tn (i + 1) s2.heap ∧ ∀ b ∈ fp, H' b = none) E s1) E s
  done : ∀ (X : Cx), X.prog = P → X.w = w → X.K = K → X.calm = true → ∀ (i : Nat) (pins : List (Addr × Obj)) (s : Shared) (σ : St) (H : Hp) (E : Value → Shared → Prop), Inv X pins σ H s → (∀ b ∈ fp, FpOk X pins H b) → tn i s.heap → J.stop i H →
    wpAny (model P w) X.A (pyNext (.ref it)) (fun r s1 => r = none ∧ Inv X pins σ H s1) E s
  self : ∀ (A : Around) (i : Nat) (s : Shared) (Q : Value → Shared → Prop) (E : Value → Shared → Prop), tn i s.heap → Q (.ref it) s → wpAny (model P w) A (pyIter (.ref it)) Q E s
abbrev TI := St → Hp → (It → Hp → Prop) → Prop
noncomputable def PIE (X : Cx) (pins : List (Addr × Obj)) (σ : St) (tg : Expr) (R : It → Hp → Prop) (itv : Value) (s2 : Shared) : Prop :=
  ∃ (it : Addr) (fp : List Addr) (tn : Nat → Heap → Prop) (J : It) (H' : Hp), itv = .ref it ∧ Inv X pins σ H' s2 ∧ Turn X.prog X.w X.K tg J fp it tn ∧ tn 0 s2.heap ∧ (∀ b ∈ fp, FpOk X pins H' b) ∧ R J H'
noncomputable def PI (X : Cx) (tg iter : Expr) (wi : TI) : Prop :=
  ∀ (pins : List (Addr × Obj)) (s : Shared) (σ : St) (H : Hp) (R : It → Hp → Prop), Inv X pins σ H s → wi σ H R →
    wpAny (model X.prog X.w) X.A (eval iter X.env) (fun v s1 => wpAny (model X.prog X.w) X.A (pyIter v) (PIE X pins σ tg R) X.xe s1) X.xe s

theorem go_of {M : Model} {A : Around} {E : Value → Shared → Prop} {s : Shared} {tg : Expr} {it : Addr} {u : Value} {o : Obj} {n : String} {vs : Array Value} {Q : Unit → Shared → Prop} (ho : s.heap.get? it = some o) (hc : o.cls = .type n) (hd : o.data = .fields vs)
    (hn : ["enumerate", "zip", "dict_itemiterator", "dict_reverseitemiterator", "odict_iterator", "itertools.zip_longest", "itertools.pairwise"].contains n = false) (hQ : Q () s) : wpAny M A (letOwnedTupleGo tg (.ref it) u) Q E s := by
  unfold letOwnedTupleGo
  cases tg <;> first
    | exact wpAny_pure hQ
    | (cases u <;> first
        | exact wpAny_pure hQ
        | (refine wpAny_bind (wpAny_load ho ?_)
           rw [hc, hd]
           show wpAny M A (if (["enumerate", "zip", "dict_itemiterator", "dict_reverseitemiterator", "odict_iterator", "itertools.zip_longest", "itertools.pairwise"].contains n && vs[0]? == some (rawInt _)) = true then _ else _) Q E s
           rw [if_neg (by intro h; rw [hn, Bool.false_and] at h; cases h)]
           exact wpAny_pure hQ))

noncomputable def Itl (K : PySem.W.Frag) (a : Addr) : It :=
  ⟨fun i H => ∃ xs x, SqL K H a xs ∧ xs[i]? = some x, fun i H x H' => H' = H ∧ ∀ xs, SqL K H a xs → xs[i]? = some x, fun i H => ∃ xs, SqL K H a xs ∧ xs.length ≤ i⟩
noncomputable def Itt (K : PySem.W.Frag) (a : Addr) : It :=
  ⟨fun i H => ∃ xs x, SqT K H a xs ∧ xs[i]? = some x, fun i H x H' => H' = H ∧ ∀ xs, SqT K H a xs → xs[i]? = some x, fun i H => ∃ xs, SqT K H a xs ∧ xs.length ≤ i⟩
noncomputable def Itr (lo : Int) (n : Nat) : It := ⟨fun i _ => i < n, fun i H x H' => H' = H ∧ x = .int (lo + i), fun i _ => n ≤ i⟩
theorem turn_list {P : Program} {w : World} {K : PySem.W.Frag} {tg : Expr} (a it : Addr) : Turn P w K tg (Itl K a) [it] it (fun i h => h.IsListIter it a i) where
  mem := by simp
  obj := fun i h st b hb => by
    have e : b = it := by simpa using hb
    subst e
    obtain ⟨o, e, c, d⟩ := st
    exact ⟨o, e, fun v z => by rw [d] at z; cases z⟩
  keep := fun i h h' st k => st.at fun o e => k it (by simp) o e
  item := by
    intro X hP hw hK hc i pins s σ H E I hf st hg
    subst hP hw hK
    obtain ⟨xs, x, hq, hx⟩ := hg
    obtain ⟨its, rv, p, hz⟩ := I.list hq
    obtain ⟨u, hu, ru⟩ := rv.get hx
    obtain ⟨f0, f1, f2, f3, f4, f5⟩ := hf it (by simp)
    refine wpAny_pyNext_list_item st p.isList (x := u) (by simpa using hu) fun h' st' sb => ?_
    have I1 : Inv X pins σ H { s with heap := h' } := I.turned (t' := s.toks) (fun b o hb e => (sb.2 b hb).trans e) f0 f1 f3 f4 f5
    obtain ⟨o, e, c, d⟩ := id st'
    exact ⟨u, rfl, go_of (s := { s with heap := h' }) e c d (by decide) ⟨x, H, I1, ru, ⟨rfl, fun ys hy => by rw [I.list_inj hy hq]; exact hx⟩, st', fun b hb => (hf b hb).1⟩⟩
  done := by
    intro X hP hw hK hc i pins s σ H E I hf st hg
    subst hP hw hK
    obtain ⟨xs, hq, hx⟩ := hg
    obtain ⟨its, rv, p, hz⟩ := I.list hq
    obtain ⟨f0, f1, f2, f3, f4, f5⟩ := hf it (by simp)
    have hl := rv.length
    exact wpAny_pyNext_list_end (I.ok.hd hc) st p.isList (by simp; omega) fun h' eb => ⟨rfl, I.turned (t' := s.toks) (fun b o hb e => eb b o hb e) f0 f1 f3 f4 f5⟩
  self := fun _ _ _ _ _ st h => wpAny_pyIter_listiter st h
theorem turn_tuple {P : Program} {w : World} {K : PySem.W.Frag} {tg : Expr} (a it : Addr) : Turn P w K tg (Itt K a) [it] it (fun i h => h.IsTupleIter it a i) where
  mem := by simp
  obj := fun i h st b hb => by
    have e : b = it := by simpa using hb
    subst e
    obtain ⟨o, e, c, d⟩ := st
    exact ⟨o, e, fun v z => by rw [d] at z; cases z⟩
  keep := fun i h h' st k => st.at fun o e => k it (by simp) o e
  item := by
    intro X hP hw hK hc i pins s σ H E I hf st hg
    subst hP hw hK
    obtain ⟨xs, x, hq, hx⟩ := hg
    obtain ⟨its, rv, p, hz⟩ := I.tuple hq
    obtain ⟨u, hu, ru⟩ := rv.get hx
    obtain ⟨f0, f1, f2, f3, f4, f5⟩ := hf it (by simp)
    refine wpAny_pyNext_tuple_item st (show s.heap.IsTuple a its.toArray from p) (x := u) (by simpa using hu) fun h' st' sb => ?_
    have I1 : Inv X pins σ H { s with heap := h' } := I.turned (t' := s.toks) (fun b o hb e => (sb.2 b hb).trans e) f0 f1 f3 f4 f5
    obtain ⟨o, e, c, d⟩ := id st'
    exact ⟨u, rfl, go_of (s := { s with heap := h' }) e c d (by decide) ⟨x, H, I1, ru, ⟨rfl, fun ys hy => by rw [I.tuple_inj hy hq]; exact hx⟩, st', fun b hb => (hf b hb).1⟩⟩
  done := by
    intro X hP hw hK hc i pins s σ H E I hf st hg
    subst hP hw hK
    obtain ⟨xs, hq, hx⟩ := hg
    obtain ⟨its, rv, p, hz⟩ := I.tuple hq
    obtain ⟨f0, f1, f2, f3, f4, f5⟩ := hf it (by simp)
    have hl := rv.length
    exact wpAny_pyNext_tuple_end (I.ok.hd hc) st (show s.heap.IsTuple a its.toArray from p) (by simp; omega) fun h' eb => ⟨rfl, I.turned (t' := s.toks) (fun b o hb e => eb b o hb e) f0 f1 f3 f4 f5⟩
  self := fun _ _ _ _ _ st h => wpAny_pyIter_tupleiter st h
theorem turn_range {P : Program} {w : World} {K : PySem.W.Frag} {tg : Expr} (it : Addr) (lo : Int) (n : Nat) : Turn P w K tg (Itr lo n) [it] it (fun i h => IsRangeIter h it (lo + (i : Nat) * 1) ((n : Int) - (i : Nat)) 1) where
  mem := by simp
  obj := fun i h st b hb => by
    have e : b = it := by simpa using hb
    subst e
    exact ⟨_, st, fun v z => by
      have z' : Data.fields _ = Data.cell v := z
      cases z'⟩
  keep := fun i h h' st k => k it (by simp) _ st
  item := by
    intro X hP hw hK hc i pins s σ H E I hf st hg
    subst hP hw hK
    obtain ⟨f0, f1, f2, f3, f4, f5⟩ := hf it (by simp)
    have W := Walks.range (prog := X.prog) (w := X.w) (I.ok.hd hc) it lo 1 n
    refine W.item i s _ _ hg st fun v h' tk hv st' kk => ?_
    obtain ⟨t, rfl⟩ := hv
    have I1 : Inv X pins σ H { s with heap := h', toks := tk } := I.turned (fun b o hb e => kk b o (by simpa using hb) e) f0 f1 f3 f4 f5
    refine ⟨_, rfl, go_of (s := { s with heap := h', toks := tk }) (n := "range_iterator") st' rfl rfl (by decide) ⟨.int (lo + i), H, I1, ⟨t, ?_⟩, ⟨rfl, rfl⟩, st', fun b hb => (hf b hb).1⟩⟩
    rw [Int.mul_one]
  done := by
    intro X hP hw hK hc i pins s σ H E I hf st hg
    subst hP hw hK
    obtain ⟨f0, f1, f2, f3, f4, f5⟩ := hf it (by simp)
    exact wpAny_pyNext_range_end (I.ok.hd hc) st (by have : n ≤ i := hg; omega) fun h' eb => ⟨rfl, I.turned (t' := s.toks) (fun b o hb e => eb b o hb e) f0 f1 f3 f4 f5⟩
  self := fun _ _ _ _ _ st h => wpAny_pyIter_rangeiter st h
end L2

namespace L2
open PySem PySem.Spec PyProof.Rows
section
variable {X : Cx} {tg : Expr}
noncomputable def iList (K : PySem.W.Frag) (tl : TE) : TI := fun σ H R => tl σ H fun x H1 => ∃ a, x = .ref a ∧ (∃ xs, SqL K H1 a xs) ∧ R (Itl K a) H1
noncomputable def iTup (K : PySem.W.Frag) (tl : TE) : TI := fun σ H R => tl σ H fun x H1 => ∃ a, x = .ref a ∧ (∃ xs, SqT K H1 a xs) ∧ R (Itt K a) H1
theorem pi_list {l : Expr} {tl : TE} (hl : PE X l tl) : PI X tg l (iList X.K tl) := by
  intro pins s σ H R I h
  refine thn (hl pins s σ H _ I h) fun v s1 ⟨x, H1, I1, r1, q1⟩ => ?_
  obtain ⟨a, e, ⟨xs, hq⟩, q⟩ := q1
  subst e
  cases r1
  obtain ⟨its, rv, p, hz⟩ := I1.list hq
  refine wpAny_pyIter_list p.isList ?_
  refine ⟨s1.heap.objs.size, [s1.heap.objs.size], _, _, H1, rfl, I1.kept (t' := s1.toks) fun b o e => Heap.get?_push_of_some _ e, turn_list a _, ⟨_, Heap.get?_push_size _ rfl, rfl, rfl⟩, fun b hb => ?_, q⟩
  have e : b = s1.heap.objs.size := by simpa using hb
  subst e
  exact I1.fpOk (Nat.le_refl _) (I1.hok.fresh (Nat.le_refl _))
theorem pi_tup {l : Expr} {tl : TE} (hl : PE X l tl) : PI X tg l (iTup X.K tl) := by
  intro pins s σ H R I h
  refine thn (hl pins s σ H _ I h) fun v s1 ⟨x, H1, I1, r1, q1⟩ => ?_
  obtain ⟨a, e, ⟨xs, hq⟩, q⟩ := q1
  subst e
  cases r1
  obtain ⟨its, rv, p, hz⟩ := I1.tuple hq
  refine wpAny_pyIter_tuple (show s1.heap.IsTuple a its.toArray from p) ?_
  refine ⟨s1.heap.objs.size, [s1.heap.objs.size], _, _, H1, rfl, I1.kept (t' := s1.toks) fun b o e => Heap.get?_push_of_some _ e, turn_tuple a _, ⟨_, Heap.get?_push_size _ rfl, rfl, rfl⟩, fun b hb => ?_, q⟩
  have e : b = s1.heap.objs.size := by simpa using hb
  subst e
  exact I1.fpOk (Nat.le_refl _) (I1.hok.fresh (Nat.le_refl _))
theorem range_it {pins : List (Addr × Obj)} {σ : St} {H : Hp} {s : Shared} {R : It → Hp → Prop} {E : Value → Shared → Prop} {lo hi : Int} {t u v : Tok} {tk : Nat} (I : Inv X pins σ H s) (h1 : -(2 ^ 62) ≤ lo) (h2 : lo < 2 ^ 62) (h3 : -(2 ^ 62) ≤ hi) (h4 : hi < 2 ^ 62)
    (q : R (Itr lo (hi - lo).toNat) H) : wpAny (model X.prog X.w) X.A (pyIter (.ref s.heap.objs.size)) (PIE X pins σ tg R) E { s with heap := s.heap.push { cls := .type "range", data := .fields #[.int lo t, .int hi u, .int 1 v] }, toks := tk } := by
  refine wpAny_pyIter_range (IsRange.new ..) (small_one h1 h2 h3 h4) ?_
  have I1 : Inv X pins σ H { s with heap := s.heap.push { cls := .type "range", data := .fields #[.int lo t, .int hi u, .int 1 v] }, toks := tk } := I.kept fun b o e => Heap.get?_push_of_some _ e
  refine ⟨(s.heap.push { cls := .type "range", data := .fields #[.int lo t, .int hi u, .int 1 v] }).objs.size, [(s.heap.push { cls := .type "range", data := .fields #[.int lo t, .int hi u, .int 1 v] }).objs.size], _, _, H, rfl,
    I1.kept (t' := tk) fun b o e => Heap.get?_push_of_some _ e, turn_range _ lo (hi - lo).toNat, ?_, fun b hb => ?_, q⟩
  · have e1 : lo + ((0 : Nat) : Int) * 1 = lo := by simp
    have e2 : (((hi - lo).toNat : Nat) : Int) - ((0 : Nat) : Int) = Builtin.Range.rangeSize lo hi 1 := by rw [rangeSize_one]; split <;> omega
    show IsRangeIter _ _ (lo + ((0 : Nat) : Int) * 1) ((((hi - lo).toNat : Nat) : Int) - ((0 : Nat) : Int)) 1
    rw [e1, e2]
    exact Heap.get?_push_size _ rfl
  · have e : b = (s.heap.push { cls := .type "range", data := .fields #[.int lo t, .int hi u, .int 1 v] }).objs.size := by simpa using hb
    subst e
    exact I1.fpOk (Nat.le_refl _) (I1.hok.fresh (Nat.le_refl _))
noncomputable def iRng1 (ta : TA) : TI := fun σ H R => ta σ H fun vs H1 => ∃ j : Int, vs = [.int j] ∧ -(2 ^ 62) ≤ j ∧ j < 2 ^ 62 ∧ R (Itr 0 j.toNat) H1
theorem pi_range1 {a : Expr} {ta : TA} {p pos : Pos} (hg : Gl X "range") (hm : X.mg "range" = none) (ha : PA X [a] ta) (hs : starEach [a] X.env = [(false, eval a X.env)] := by rfl) : PI X tg (.Call (.Name "range" p) [a] [] pos) (iRng1 ta) := by
  intro pins s σ H R I h
  refine Call_ (ld_blt I hg hm boot_range (PyProof.Rows.callWith_type1 (thn (ha pos pins s σ H _ I h) fun us s1 ⟨vs, H1, I1, r1, q1⟩ => ?_) hs rfl))
  obtain ⟨j, e, q1, q2, q⟩ := q1
  subst e
  cases r1 with
  | cons r rr =>
    cases rr
    obtain ⟨t, rfl⟩ := r
    exact call_range_1 (range_it I1 (by omega) (by omega) q1 q2 (by simpa using q))

noncomputable def tFor (wi : TI) (g : TG) (tb : TS) : TS := fun D σ H => wi σ H fun J H1 => ∃ W : Nat → Nat → St → Hp → Prop, (∃ m, W 0 m σ H1) ∧ ∀ i m σ H, W i m σ H →
  (J.stop i H ∧ D.nx σ H) ∨ (J.go i H ∧ ∃ N : St → Hp → Prop, (∀ σ' H', N σ' H' → ∃ m', m' < m ∧ W (i + 1) m' σ' H') ∧ ∀ x H', J.yld i H x H' → g x σ H' fun σ2 H2 => tb { D with nx := N, ct := N, bk := D.nx } σ2 H2)
noncomputable def pinsAt (fp : List Addr) (h : Heap) : List (Addr × Obj) := fp.filterMap fun b => (h.get? b).map fun o => (b, o)
theorem mem_pinsAt {fp : List Addr} {h : Heap} {b : Addr} {o : Obj} (hb : b ∈ fp) (e : h.get? b = some o) : (b, o) ∈ pinsAt fp h := List.mem_filterMap.mpr ⟨b, hb, by rw [e]; rfl⟩
theorem of_pinsAt {fp : List Addr} {h : Heap} {p : Addr × Obj} (hp : p ∈ pinsAt fp h) : p.1 ∈ fp ∧ h.get? p.1 = some p.2 := by
  obtain ⟨b, hb, e⟩ := List.mem_filterMap.mp hp
  cases q : h.get? b with
  | none => rw [q] at e; cases e
  | some o =>
    rw [q] at e
    have e' : (b, o) = p := Option.some.inj e
    subst e'
    exact ⟨hb, q⟩
theorem Inv.pinned {pins : List (Addr × Obj)} {σ : St} {H : Hp} {s : Shared} {fp : List Addr} (I : Inv X pins σ H s) (hf : ∀ b ∈ fp, FpOk X pins H b) (ho : ∀ b ∈ fp, ∃ o, s.heap.get? b = some o ∧ ∀ v, o.data ≠ .cell v) : Inv X (pins ++ pinsAt fp s.heap) σ H s :=
  I.pins_of fun p hp => (List.mem_append.mp hp).elim (fun z => I.pin p (List.mem_append_right _ z)) fun z => by
    obtain ⟨hb, e⟩ := of_pinsAt z
    obtain ⟨f0, f1, f2, _⟩ := hf p.1 hb
    obtain ⟨o, e', d⟩ := ho p.1 hb
    rw [e] at e'; cases e'
    exact ⟨e, f0, f1, f2, d⟩
theorem Inv.unpinned {pins pl : List (Addr × Obj)} {σ : St} {H : Hp} {s : Shared} (I : Inv X (pins ++ pl) σ H s) : Inv X pins σ H s := I.pins_of fun p hp => I.pin p (List.mem_append_right _ (List.mem_append_left _ hp))
theorem ps_for {iter : Expr} {body : List Stmt} {wi : TI} {g : TG} {tb : TS} {pos : Pos} (hp : PassesOwn (model X.prog X.w) X.A X.env X.xe) (hc : X.calm = true) (hi : PI X tg iter wi) (hg : PG X tg g) (hb : PSs X body tb)
    (hs : ∀ x, foldedSetIterable iter X.env x = pure x := by intro _; rfl) : PS X (.For tg iter body [] pos) (tFor wi g tb) := by
  intro pins s σ H D I h
  refine wpAny_For (thn (hi pins s σ H _ I h) fun v s1 h1 => thn h1 fun itv s2 h2 => ?_) hs
  obtain ⟨it, fp, tn, J, H2, e, I2, T, st2, f2, W, ⟨m0, w0⟩, turn⟩ := h2
  subst e
  -- what stays true of the iterator's objects through the loop
  have stat : ∀ {H' : Hp}, (∀ b ∈ fp, H' b = none) → ∀ b ∈ fp, FpOk X pins H' b := fun hn b hb => ⟨hn b hb, (f2 b hb).2⟩
  refine codeAny_forLoop_any (fun n s' => ∃ i σ' H', Inv X pins σ' H' s' ∧ tn i s'.heap ∧ (∀ b ∈ fp, H' b = none) ∧ W i n σ' H') ?_ m0 ⟨0, σ, H2, I2, st2, fun b hb => (f2 b hb).1, w0⟩
  rintro n s3 ⟨i, σ3, H3, I3, st3, fr3, w3⟩
  rcases turn i n σ3 H3 w3 with ⟨stop, qn⟩ | ⟨go, N, hN, step⟩
  · refine wpAny_passesOwn hp (thn (T.done X rfl rfl rfl hc i pins s3 σ3 H3 X.xe I3 (stat fr3) st3 stop) fun r s4 ⟨hr, I4⟩ => ?_)
    subst hr
    exact wpAny_execs_nil ⟨σ3, H3, I4, qn⟩
  · refine wpAny_passesOwn hp (thn (T.item X rfl rfl rfl hc i pins s3 σ3 H3 X.xe I3 (stat fr3) st3 go) fun r s4 ⟨u, hr, h4⟩ => ?_)
    subst hr
    refine wpAny_passesOwn hp (thn h4 fun _ s5 ⟨x, H5, I5, r5, y5, st5, fr5⟩ => ?_)
    have I5' := I5.pinned (stat fr5) (T.obj _ _ st5)
    refine wpAny_passesOwn hp (thn (hg _ s5 σ3 H5 x u _ I5' r5 (step x H5 y5)) fun _ s6 ⟨σ6, H6, I6, q6⟩ => ?_)
    refine wpAny_passesOwn hp (thn (hb _ s6 σ6 H6 _ I6 q6) fun f s7 q7 => ?_)
    have again : ∀ {σ7 : St} {H7 : Hp}, Inv X (pins ++ pinsAt fp s5.heap) σ7 H7 s7 → N σ7 H7 → ∃ m, m < n ∧ ∃ i σ' H', Inv X pins σ' H' s7 ∧ tn i s7.heap ∧ (∀ b ∈ fp, H' b = none) ∧ W i m σ' H' := fun {σ7 H7} I7 n7 => by
      obtain ⟨m', hm, w7⟩ := hN σ7 H7 n7
      refine ⟨m', hm, i + 1, σ7, H7, I7.unpinned, T.keep _ _ _ st5 fun b hb o e => (I7.pin (b, o) (List.mem_append_right _ (List.mem_append_right _ (mem_pinsAt hb e)))).1, fun b hb => ?_, w7⟩
      obtain ⟨o, e, d⟩ := T.obj _ _ st5 b hb
      exact (I7.pin (b, o) (List.mem_append_right _ (List.mem_append_right _ (mem_pinsAt hb e)))).2.1
    cases f with
    | next => obtain ⟨σ7, H7, I7, n7⟩ := q7; exact again I7 n7
    | cont => obtain ⟨σ7, H7, I7, n7⟩ := q7; exact again I7 n7
    | brk => obtain ⟨σ7, H7, I7, q7⟩ := q7; exact ⟨σ7, H7, I7.unpinned, q7⟩
    | ret v => obtain ⟨x7, σ7, H7, I7, r7, q7⟩ := q7; exact ⟨x7, σ7, H7, I7.unpinned, r7, q7⟩
end

theorem for_list {K : PySem.W.Frag} {a : Addr} {xs : List V} {g : TG} {tb : TS} {D : Ends} {σ : St} {H : Hp} (Pv : Nat → St → Hp → Prop) (h0 : Pv 0 σ H) (hl : ∀ i σ H, i ≤ xs.length → Pv i σ H → SqL K H a xs)
    (hs : ∀ i x σ H, xs[i]? = some x → Pv i σ H → g x σ H fun σ2 H2 => tb { D with nx := Pv (i + 1), ct := Pv (i + 1), bk := D.nx } σ2 H2) (hd : ∀ σ H, Pv xs.length σ H → D.nx σ H) :
    ∃ W : Nat → Nat → St → Hp → Prop, (∃ m, W 0 m σ H) ∧ ∀ i m σ H, W i m σ H →
      ((Itl K a).stop i H ∧ D.nx σ H) ∨ ((Itl K a).go i H ∧ ∃ N : St → Hp → Prop, (∀ σ' H', N σ' H' → ∃ m', m' < m ∧ W (i + 1) m' σ' H') ∧ ∀ x H', (Itl K a).yld i H x H' → g x σ H' fun σ2 H2 => tb { D with nx := N, ct := N, bk := D.nx } σ2 H2) := by
  refine ⟨fun i m σ H => m = xs.length - i ∧ i ≤ xs.length ∧ Pv i σ H, ⟨xs.length, by simp, Nat.zero_le _, h0⟩, ?_⟩
  rintro i m σ H ⟨rfl, hi, p⟩
  have q := hl i σ H hi p
  by_cases hlt : i < xs.length
  · refine .inr ⟨⟨xs, xs[i], q, by simp [hlt]⟩, Pv (i + 1), fun σ' H' p' => ⟨xs.length - (i + 1), by omega, rfl, hlt, p'⟩, fun x H' y => ?_⟩
    obtain ⟨e, y⟩ := y
    subst e
    exact hs i x σ _ (y xs q) p
  · have e : i = xs.length := by omega
    subst e
    exact .inl ⟨⟨xs, q, Nat.le_refl _⟩, hd σ H p⟩
theorem for_range {lo : Int} {n : Nat} {g : TG} {tb : TS} {D : Ends} {σ : St} {H : Hp} (Pv : Nat → St → Hp → Prop) (h0 : Pv 0 σ H)
    (hs : ∀ i σ H, i < n → Pv i σ H → g (.int (lo + i)) σ H fun σ2 H2 => tb { D with nx := Pv (i + 1), ct := Pv (i + 1), bk := D.nx } σ2 H2) (hd : ∀ σ H, Pv n σ H → D.nx σ H) :
    ∃ W : Nat → Nat → St → Hp → Prop, (∃ m, W 0 m σ H) ∧ ∀ i m σ H, W i m σ H →
      ((Itr lo n).stop i H ∧ D.nx σ H) ∨ ((Itr lo n).go i H ∧ ∃ N : St → Hp → Prop, (∀ σ' H', N σ' H' → ∃ m', m' < m ∧ W (i + 1) m' σ' H') ∧ ∀ x H', (Itr lo n).yld i H x H' → g x σ H' fun σ2 H2 => tb { D with nx := N, ct := N, bk := D.nx } σ2 H2) := by
  refine ⟨fun i m σ H => m = n - i ∧ i ≤ n ∧ Pv i σ H, ⟨n, by simp, Nat.zero_le _, h0⟩, ?_⟩
  rintro i m σ H ⟨rfl, hi, p⟩
  by_cases hlt : i < n
  · refine .inr ⟨hlt, Pv (i + 1), fun σ' H' p' => ⟨n - (i + 1), by omega, rfl, hlt, p'⟩, fun x H' y => ?_⟩
    obtain ⟨e, y⟩ := y
    subst e y
    exact hs i σ _ hlt p
  · have e : i = n := by omega
    subst e
    exact .inl ⟨Nat.le_refl _, hd σ H p⟩
end L2

namespace L2
open PySem PySem.Spec PyProof.Rows

abbrev R2 := V → V → Hp → VK → Prop
noncomputable def OpR (X : Cx) (f : Value → Value → Sem Value) (r : R2) : Prop :=
  ∀ (pins : List (Addr × Obj)) (s : Shared) (σ : St) (H : Hp) (x y : V) (v u : Value) (Q : VK), Inv X pins σ H s → RelV x v → RelV y u → r x y H Q →
    wpAny (model X.prog X.w) X.A (f v u) (EP X pins σ Q) X.xe s
noncomputable def UnR (X : Cx) (f : Value → Sem Value) (r : V → Hp → VK → Prop) : Prop :=
  ∀ (pins : List (Addr × Obj)) (s : Shared) (σ : St) (H : Hp) (x : V) (v : Value) (Q : VK), Inv X pins σ H s → RelV x v → r x H Q →
    wpAny (model X.prog X.w) X.A (f v) (EP X pins σ Q) X.xe s
noncomputable def CallR (X : Cx) (f : Value) (r : List V → Hp → VK → Prop) : Prop :=
  ∀ (pins : List (Addr × Obj)) (s : Shared) (σ : St) (H : Hp) (xs : List V) (us : List Value) (Q : VK), Inv X pins σ H s → Vals xs us → r xs H Q →
    wpAny (model X.prog X.w) X.A (call f us) (EP X pins σ Q) X.xe s

noncomputable def tOp (r : R2) (ta tb : TE) : TE := fun σ H Q => ta σ H fun x H1 => tb σ H1 fun y H2 => r x y H2 Q
noncomputable def tUn (r : V → Hp → VK → Prop) (ta : TE) : TE := fun σ H Q => ta σ H fun x H1 => r x H1 Q
noncomputable def rI (C : Int → Int → Prop) (g : Int → Int → V) : R2 := fun x y H Q => ∃ i j, x = .int i ∧ y = .int j ∧ C i j ∧ Q (g i j) H
noncomputable def rI0 (g : Int → Int → V) : R2 := fun x y H Q => ∃ i j, x = .int i ∧ y = .int j ∧ Q (g i j) H
noncomputable def rU (g : Int → V) : V → Hp → VK → Prop := fun x H Q => ∃ i, x = .int i ∧ Q (g i) H

section
variable {X : Cx} {a b c : Expr} {ta tb tc : TE} {pos : Pos}

theorem binT (ha : PE X a ta) (hb : PE X b tb) {pins : List (Addr × Obj)} {s : Shared} {σ : St} {H : Hp} {R : V → V → Hp → Prop} (I : Inv X pins σ H s)
    (h : ta σ H fun x H1 => tb σ H1 fun y H2 => R x y H2) {Q : Value → Shared → Prop} {f : Value → Value → Sem Value}
    (hf : ∀ v u s2 x y H2, Inv X pins σ H2 s2 → RelV x v → RelV y u → R x y H2 → wpAny (model X.prog X.w) X.A (f v u) Q X.xe s2) :
    wpAny (model X.prog X.w) X.A (eval a X.env) (fun v s₁ => wpAny (model X.prog X.w) X.A (eval b X.env) (fun u s₂ => wpAny (model X.prog X.w) X.A (f v u) Q X.xe s₂) X.xe s₁) X.xe s := by
  refine thn (ha pins s σ H _ I h) fun v s1 ⟨x, H1, I1, r1, q1⟩ => ?_
  refine thn (hb pins s1 σ H1 _ I1 q1) fun u s2 ⟨y, H2, I2, r2, q2⟩ => ?_
  exact hf v u s2 x y H2 I2 r1 r2 q2

theorem pe_op {op : Operator} {r : R2} (ho : OpR X (binaryOp op) r) (ha : PE X a ta) (hb : PE X b tb) : PE X (.BinOp a op b pos) (tOp r ta tb) := by
  intro pins s σ H Q I h
  exact wpAny_BinOp (binT ha hb I h fun v u s2 x y H2 I2 rx ry q => ho pins s2 σ H2 x y v u Q I2 rx ry q)
theorem pe_un {op : UnaryOp} {r : V → Hp → VK → Prop} (ho : UnR X (unaryOp op) r) (ha : PE X a ta) : PE X (.UnaryOp op a pos) (tUn r ta) := by
  intro pins s σ H Q I h
  exact UnaryOp_ (thn (ha pins s σ H _ I h) fun v s1 ⟨x, H1, I1, r1, q1⟩ => ho pins s1 σ H1 x v Q I1 r1 q1)

theorem opI {f : Value → Value → Sem Value} {C : Int → Int → Prop} {g : Int → Int → Int}
    (rule : ∀ (i j : Int) (t u : Tok) (s : Shared) (Q : Value → Shared → Prop) (E : Value → Shared → Prop), C i j → Q (.int (g i j) s.toks) { s with toks := s.toks + 1 } → wpAny (model X.prog X.w) X.A (f (.int i t) (.int j u)) Q E s) :
    OpR X f (rI C fun i j => .int (g i j)) := by
  intro pins s σ H x y v u Q I rx ry h
  obtain ⟨i, j, rfl, rfl, hc, q⟩ := h
  obtain ⟨t, rfl⟩ := rx
  obtain ⟨t', rfl⟩ := ry
  exact rule i j t t' s _ _ hc ⟨.int (g i j), H, I.tok _, ⟨_, rfl⟩, q⟩
theorem opI0 {f : Value → Value → Sem Value} {g : Int → Int → Int}
    (rule : ∀ (i j : Int) (t u : Tok) (s : Shared) (Q : Value → Shared → Prop) (E : Value → Shared → Prop), Q (.int (g i j) s.toks) { s with toks := s.toks + 1 } → wpAny (model X.prog X.w) X.A (f (.int i t) (.int j u)) Q E s) :
    OpR X f (rI0 fun i j => .int (g i j)) := by
  intro pins s σ H x y v u Q I rx ry h
  obtain ⟨i, j, rfl, rfl, q⟩ := h
  obtain ⟨t, rfl⟩ := rx
  obtain ⟨t', rfl⟩ := ry
  exact rule i j t t' s _ _ ⟨.int (g i j), H, I.tok _, ⟨_, rfl⟩, q⟩
theorem opB0 {f : Value → Value → Sem Value} {g : Int → Int → Bool}
    (rule : ∀ (i j : Int) (t u : Tok) (s : Shared) (Q : Value → Shared → Prop) (E : Value → Shared → Prop), Q (.bool (g i j)) s → wpAny (model X.prog X.w) X.A (f (.int i t) (.int j u)) Q E s) :
    OpR X f (rI0 fun i j => .bl (g i j)) := by
  intro pins s σ H x y v u Q I rx ry h
  obtain ⟨i, j, rfl, rfl, q⟩ := h
  obtain ⟨t, rfl⟩ := rx
  obtain ⟨t', rfl⟩ := ry
  exact rule i j t t' s _ _ ⟨.bl (g i j), H, I, rfl, q⟩

noncomputable def CDiv (i j : Int) : Prop := 0 < j ∧ j < 1073741824
noncomputable def CPow (i j : Int) : Prop := 0 ≤ j ∧ j ≤ 1000000 ∧ i.natAbs < 2 ^ 64
noncomputable def CMul (i j : Int) : Prop := (-(2 ^ 64) < i ∧ i < 2 ^ 64) ∨ (-(2 ^ 64) < j ∧ j < 2 ^ 64)
theorem CMul.ok {i j : Int} (h : CMul i j) : IntMulOk i j := by
  rcases h with ⟨h1, h2⟩ | ⟨h1, h2⟩
  · exact .of_left (intBits_le_64 h1 h2)
  · exact .of_right (intBits_le_64 h1 h2)

theorem op_add : OpR X (binaryOp .Add) (rI0 fun i j => .int (i + j)) := opI0 fun _ _ _ _ _ _ _ q => add_int q
theorem op_sub : OpR X (binaryOp .Sub) (rI0 fun i j => .int (i - j)) := opI0 fun _ _ _ _ _ _ _ q => sub_int q
theorem op_mul : OpR X (binaryOp .Mult) (rI CMul fun i j => .int (i * j)) := opI fun _ _ _ _ _ _ _ hc q => mul_int q hc.ok
theorem op_fdiv : OpR X (binaryOp .FloorDiv) (rI CDiv fun i j => .int (i / j)) := opI fun i j _ _ _ _ _ hc q => by
  have h1 : (0 : Int) < j := hc.1
  have h2 : j < 1073741824 := hc.2
  exact floordiv_int (by omega) (by rw [Int.fdiv_eq_ediv_of_nonneg i (by omega)]; exact q) (.inl (PyProof.noPylong_small (by omega)))
theorem op_mod : OpR X (binaryOp .Mod) (rI (fun _ j => 0 < j) fun i j => .int (i % j)) := opI fun i j _ _ _ _ _ hc q => by
  have h1 : (0 : Int) < j := hc
  exact mod_int' (by omega) (by rw [Int.fmod_eq_emod_of_nonneg i (by omega)]; exact q)
theorem op_pow : OpR X (binaryOp .Pow) (rI CPow fun i j => .int (i ^ j.toNat)) := opI fun _ _ _ _ _ _ _ hc q => pow_int_small hc.1 hc.2.1 hc.2.2 q


theorem unI {f : Value → Sem Value} {g : Int → Int}
    (rule : ∀ (i : Int) (t : Tok) (s : Shared) (Q : Value → Shared → Prop) (E : Value → Shared → Prop), Q (.int (g i) s.toks) { s with toks := s.toks + 1 } → wpAny (model X.prog X.w) X.A (f (.int i t)) Q E s) :
    UnR X f (rU fun i => .int (g i)) := by
  intro pins s σ H x v Q I rx h
  obtain ⟨i, rfl, q⟩ := h
  obtain ⟨t, rfl⟩ := rx
  exact rule i t s _ _ ⟨.int (g i), H, I.tok _, ⟨_, rfl⟩, q⟩
theorem un_neg : UnR X (unaryOp .USub) (rU fun i => .int (-i)) := unI fun _ _ _ _ _ q => neg_int q

end

noncomputable def scal : V → V → Bool
  | .non, .non => true | .non, .int _ => true | .int _, .non => true | .non, .bl _ => true | .bl _, .non => true | .non, .str _ => true | .str _, .non => true
  | .int _, .int _ => true | .bl _, .bl _ => true | .str _, .str _ => true | .byt _, .byt _ => true
  | .int _, .str _ => true | .str _, .int _ => true | .bl _, .str _ => true | .str _, .bl _ => true
  | _, _ => false
noncomputable def rEq : R2 := fun x y H Q => scal x y = true ∧ Q (.bl (decide (x = y))) H
noncomputable def rNe : R2 := fun x y H Q => scal x y = true ∧ Q (.bl (!decide (x = y))) H

theorem dec_int {i j : Int} : decide (V.int i = V.int j) = (i == j) := by
  rw [Bool.eq_iff_iff]
  simp
theorem dec_bl {i j : Bool} : decide (V.bl i = V.bl j) = (i == j) := by
  rw [Bool.eq_iff_iff]
  simp
theorem dec_str {i j : Str} : decide (V.str i = V.str j) = (i == j) := by
  rw [Bool.eq_iff_iff]
  simp
theorem dec_byt {i j : Array UInt8} : decide (V.byt i = V.byt j) = (i.toList == j.toList) := by
  rw [Bool.eq_iff_iff]
  cases i
  cases j
  simp

section
variable {X : Cx} {a b c : Expr} {ta tb tc : TE} {pos : Pos}
theorem fin_bl {pins : List (Addr × Obj)} {σ : St} {H : Hp} {s : Shared} {Q : VK} {k k' : Bool} (I : Inv X pins σ H s) (q : Q (.bl k) H) (e : k = k') : EP X pins σ Q (.bool k') s := by
  subst e
  exact ⟨.bl k, H, I, rfl, q⟩
theorem op_eq : OpR X (compareOp .Eq) rEq := by
  intro pins s σ H x y v u Q I rx ry h
  obtain ⟨hs, q⟩ := h
  cases x with
  | non =>
    cases rx
    cases y with
    | non => cases ry; exact PySem.EqNone.eq_none_none (fin_bl I q (by simp))
    | bl j => cases ry; exact PySem.EqNone.eq_none_bool (fin_bl I q (by simp))
    | int j => obtain ⟨t', rfl⟩ := ry; exact PySem.EqNone.eq_none_int (fin_bl I q (by simp))
    | str j => obtain ⟨t', rfl⟩ := ry; exact PySem.EqNone.eq_none_str (fin_bl I q (by simp))
    | _ => exact absurd (show false = true from hs) Bool.false_ne_true
  | bl i =>
    cases rx
    cases y with
    | non => cases ry; exact PySem.EqNone.eq_bool_none (fin_bl I q (by simp))
    | bl j => cases ry; exact eq_bool (fin_bl I q dec_bl)
    | str j => obtain ⟨t', rfl⟩ := ry; exact PySem.EqMixed.eq_bool_str (fin_bl I q (by simp))
    | _ => exact absurd (show false = true from hs) Bool.false_ne_true
  | int i =>
    obtain ⟨t, rfl⟩ := rx
    cases y with
    | non => cases ry; exact PySem.EqNone.eq_int_none (fin_bl I q (by simp))
    | int j => obtain ⟨t', rfl⟩ := ry; exact eq_int (fin_bl I q dec_int)
    | str j => obtain ⟨t', rfl⟩ := ry; exact PySem.EqMixed.eq_int_str (fin_bl I q (by simp))
    | _ => exact absurd (show false = true from hs) Bool.false_ne_true
  | str i =>
    obtain ⟨t, rfl⟩ := rx
    cases y with
    | non => cases ry; exact PySem.EqNone.eq_str_none (fin_bl I q (by simp))
    | bl j => cases ry; exact PySem.EqMixed.eq_str_bool (fin_bl I q (by simp))
    | int j => obtain ⟨t', rfl⟩ := ry; exact PySem.EqMixed.eq_str_int (fin_bl I q (by simp))
    | str j => obtain ⟨t', rfl⟩ := ry; exact eq_str (fin_bl I q dec_str)
    | _ => exact absurd (show false = true from hs) Bool.false_ne_true
  | byt i =>
    obtain ⟨t, rfl⟩ := rx
    cases y with
    | byt j => obtain ⟨t', rfl⟩ := ry; exact PySem.W.eq_bytes (fin_bl I q dec_byt)
    | _ => exact absurd (show false = true from hs) Bool.false_ne_true
  | _ => cases y <;> exact absurd (show false = true from hs) Bool.false_ne_true
theorem op_ne : OpR X (compareOp .NotEq) rNe := by
  intro pins s σ H x y v u Q I rx ry h
  obtain ⟨hs, q⟩ := h
  cases x with
  | non =>
    cases rx
    cases y with
    | non => cases ry; exact PySem.EqNone.ne_none_none (fin_bl I q (by simp))
    | bl j => cases ry; exact PySem.EqNone.ne_none_bool (fin_bl I q (by simp))
    | int j => obtain ⟨t', rfl⟩ := ry; exact PySem.EqNone.ne_none_int (fin_bl I q (by simp))
    | str j => obtain ⟨t', rfl⟩ := ry; exact PySem.EqNone.ne_none_str (fin_bl I q (by simp))
    | _ => exact absurd (show false = true from hs) Bool.false_ne_true
  | bl i =>
    cases rx
    cases y with
    | non => cases ry; exact PySem.EqNone.ne_bool_none (fin_bl I q (by simp))
    | bl j => cases ry; exact ne_bool (fin_bl I q (congrArg not dec_bl))
    | str j => obtain ⟨t', rfl⟩ := ry; exact PySem.EqMixed.ne_bool_str (fin_bl I q (by simp))
    | _ => exact absurd (show false = true from hs) Bool.false_ne_true
  | int i =>
    obtain ⟨t, rfl⟩ := rx
    cases y with
    | non => cases ry; exact PySem.EqNone.ne_int_none (fin_bl I q (by simp))
    | int j => obtain ⟨t', rfl⟩ := ry; exact ne_int (fin_bl I q (congrArg not dec_int))
    | str j => obtain ⟨t', rfl⟩ := ry; exact PySem.EqMixed.ne_int_str (fin_bl I q (by simp))
    | _ => exact absurd (show false = true from hs) Bool.false_ne_true
  | str i =>
    obtain ⟨t, rfl⟩ := rx
    cases y with
    | non => cases ry; exact PySem.EqNone.ne_str_none (fin_bl I q (by simp))
    | bl j => cases ry; exact PySem.EqMixed.ne_str_bool (fin_bl I q (by simp))
    | int j => obtain ⟨t', rfl⟩ := ry; exact PySem.EqMixed.ne_str_int (fin_bl I q (by simp))
    | str j => obtain ⟨t', rfl⟩ := ry; exact ne_str (fin_bl I q (congrArg not dec_str))
    | _ => exact absurd (show false = true from hs) Bool.false_ne_true
  | byt i =>
    obtain ⟨t, rfl⟩ := rx
    cases y with
    | byt j => obtain ⟨t', rfl⟩ := ry; exact PySem.W.ne_bytes (fin_bl I q (congrArg not dec_byt))
    | _ => exact absurd (show false = true from hs) Bool.false_ne_true
  | _ => cases y <;> exact absurd (show false = true from hs) Bool.false_ne_true

theorem op_lt : OpR X (compareOp .Lt) (rI0 fun i j => .bl (decide (i < j))) := opB0 fun _ _ _ _ _ _ _ q => lt_int q
theorem op_le : OpR X (compareOp .LtE) (rI0 fun i j => .bl (decide (i ≤ j))) := opB0 fun _ _ _ _ _ _ _ q => le_int q
theorem op_gt : OpR X (compareOp .Gt) (rI0 fun i j => .bl (decide (j < i))) := opB0 fun _ _ _ _ _ _ _ q => gt_int q
theorem op_ge : OpR X (compareOp .GtE) (rI0 fun i j => .bl (decide (j ≤ i))) := opB0 fun _ _ _ _ _ _ _ q => ge_int q
theorem op_in_str : OpR X (compareOp .In) (fun x y H Q => ∃ i j, x = .str i ∧ y = .str j ∧ Q (.bl (!(Builtin.Str.occurrences j i 0 j.length 1).isEmpty)) H) := by
  intro pins s σ H x y v u Q I rx ry h
  obtain ⟨i, j, rfl, rfl, q⟩ := h
  obtain ⟨t, rfl⟩ := rx
  obtain ⟨t', rfl⟩ := ry
  exact in_str (fin_bl I q rfl)




theorem nomark (b : Expr) {op : CmpOp} (h : op ≠ .In := by decide) (h2 : op ≠ .NotIn := by decide) : behindInMarks op b = false := by
  have e1 : (op == CmpOp.In) = false := by cases op <;> first | rfl | exact absurd rfl h
  have e2 : (op == CmpOp.NotIn) = false := by cases op <;> first | rfl | exact absurd rfl h2
  cases b <;> simp [behindInMarks, e1, e2]
theorem pe_cmpR {op : CmpOp} {r : R2} (ho : OpR X (compareOp op) r) (ha : PE X a ta) (hb : PE X b tb) (hm : behindInMarks op b = false) : PE X (.Compare a [op] [b] pos) (tOp r ta tb) := by
  intro pins s σ H Q I h
  exact wpAny_Compare1 (binT ha hb I h fun v u s2 x y H2 I2 rx ry q => ho pins s2 σ H2 x y v u Q I2 rx ry q) hm
noncomputable def tTest (t : TE) : TT := fun σ H Q => t σ H fun x H' => ∃ k, x = .bl k ∧ Q k H'
theorem pt_cmpR {op : CmpOp} {r : R2} (ho : OpR X (compareOp op) r) (ha : PE X a ta) (hb : PE X b tb) (hm : behindInMarks op b = false) : PT X (.Compare a [op] [b] pos) (tTest (tOp r ta tb)) := by
  intro pins s σ H Q I h
  refine wpAny_isTrue_Compare1 (thn (ha pins s σ H _ I h) fun v s1 ⟨x, H1, I1, r1, q1⟩ => thn (hb pins s1 σ H1 _ I1 q1) fun u s2 ⟨y, H2, I2, r2, q2⟩ =>
    thn (ho pins s2 σ H2 x y v u _ I2 r1 r2 q2) fun c s3 ⟨z, H3, I3, r3, k, e, q3⟩ => ?_) hm
  subst e
  cases r3
  exact wpAny_truthy_bool ⟨H3, I3, q3⟩
noncomputable def tChain (r r' : R2) (ta tb tc : TE) : TE := fun σ H Q => ta σ H fun x H1 => tb σ H1 fun y H2 => r x y H2 fun z H3 => ∃ k, z = .bl k ∧
  (if k = true then tc σ H3 fun w' H4 => r' y w' H4 Q else Q (.bl false) H3)
theorem pt_chain {op op' : CmpOp} {r r' : R2} (ho : OpR X (compareOp op) r) (ho' : OpR X (compareOp op') r') (ha : PE X a ta) (hb : PE X b tb) (hc : PE X c tc)
    (hm : lastMarks [op, op'] [b, c] = false := by with_unfolding_all rfl) : PT X (.Compare a [op, op'] [b, c] pos) (tTest (tChain r r' ta tb tc)) := by
  intro pins s σ H Q I h
  refine isTrue_chain (thn (ha pins s σ H _ I h) fun v s1 ⟨x, H1, I1, r1, q1⟩ => test_link (thn (hb pins s1 σ H1 _ I1 q1) fun u s2 ⟨y, H2, I2, r2, q2⟩ =>
    thn (ho pins s2 σ H2 x y v u _ I2 r1 r2 q2) fun d s3 ⟨z, H3, I3, r3, k, e, q3⟩ => ?_)) hm
  subst e
  cases r3
  refine wpAny_truthy_bool ?_
  cases k with
  | false =>
    obtain ⟨k', e', q'⟩ := q3
    cases e'
    exact ite_ff ⟨H3, I3, q'⟩
  | true =>
    refine ite_tt (test_last (thn (hc pins s3 σ H3 _ I3 q3) fun w' s4 ⟨z', H4, I4, r4, q4⟩ => thn (ho' pins s4 σ H4 y z' u w' _ I4 r2 r4 q4) fun d' s5 ⟨z2, H5, I5, r5, k2, e2, q5⟩ => ?_))
    subst e2
    cases r5
    exact wpAny_truthy_bool ⟨H5, I5, q5⟩

theorem line63 : (sizeLine : Nat) < 2 ^ 63 := by rw [sizeLine_eq]; decide

theorem op_add_str : OpR X (binaryOp .Add) (fun x y H Q => ∃ i j, x = .str i ∧ y = .str j ∧ i.length + j.length ≤ sizeLine ∧ Q (.str (i ++ j)) H) := by
  intro pins s σ H x y v u Q I rx ry h
  obtain ⟨i, j, rfl, rfl, hz, q⟩ := h
  obtain ⟨t, rfl⟩ := rx
  obtain ⟨t', rfl⟩ := ry
  exact add_str (fun t' tk => ⟨.str (i ++ j), H, I.tok _, ⟨_, rfl⟩, q⟩) hz


theorem vals1 {x : V} {us : List Value} (r : Vals [x] us) : ∃ u, us = [u] ∧ RelV x u := by
  cases r with
  | cons r1 r2 => cases r2; exact ⟨_, rfl, r1⟩
theorem vals2 {x y : V} {us : List Value} (r : Vals [x, y] us) : ∃ u w', us = [u, w'] ∧ RelV x u ∧ RelV y w' := by
  cases r with
  | cons r1 r2 =>
    cases r2 with
    | cons r3 r4 => cases r4; exact ⟨_, _, rfl, r1, r3⟩
theorem call_max2 (hc : X.calm = true) : CallR X (.builtin "max") (fun xs H Q => ∃ i j, xs = [.int i, .int j] ∧ Q (.int (if j > i then j else i)) H) := by
  intro pins s σ H xs us Q I r h
  obtain ⟨i, j, rfl, q⟩ := h
  obtain ⟨u, w', rfl, ⟨t, rfl⟩, ⟨t', rfl⟩⟩ := vals2 r
  refine max_two_ints (I.ok.hd hc) fun h' tk k => ⟨_, H, I.kept k, ?_, q⟩
  by_cases hj : j > i
  · rw [if_pos hj, if_pos hj]; exact ⟨_, rfl⟩
  · rw [if_neg hj, if_neg hj]; exact ⟨_, rfl⟩
theorem call_min2 (hc : X.calm = true) : CallR X (.builtin "min") (fun xs H Q => ∃ i j, xs = [.int i, .int j] ∧ Q (.int (if j < i then j else i)) H) := by
  intro pins s σ H xs us Q I r h
  obtain ⟨i, j, rfl, q⟩ := h
  obtain ⟨u, w', rfl, ⟨t, rfl⟩, ⟨t', rfl⟩⟩ := vals2 r
  refine min_two_ints (I.ok.hd hc) fun h' tk k => ⟨_, H, I.kept k, ?_, q⟩
  by_cases hj : j < i
  · rw [if_pos hj, if_pos hj]; exact ⟨_, rfl⟩
  · rw [if_neg hj, if_neg hj]; exact ⟨_, rfl⟩
theorem call_int1 : CallR X (.type "int") (fun xs H Q => (∃ i, xs = [.int i] ∧ Q (.int i) H) ∨ ∃ k, xs = [.bl k] ∧ Q (.int (if k then 1 else 0)) H) := by
  intro pins s σ H xs us Q I r h
  rcases h with ⟨i, rfl, q⟩ | ⟨k, rfl, q⟩
  · obtain ⟨u, rfl, t, rfl⟩ := vals1 r
    exact call_int_int ⟨.int i, H, I, ⟨_, rfl⟩, q⟩
  · obtain ⟨u, rfl, r1⟩ := vals1 r
    cases r1
    exact call_int_bool ⟨.int (if k then 1 else 0), H, I.tok _, ⟨_, rfl⟩, q⟩
end
end L2

namespace L2
open PySem PySem.Spec PyProof.Rows

structure ObjM (h : Heap) (x dx C : Addr) (mA : Str → Option Value) : Prop where
  obj : h.get? x = some (PySem.W.instObj C dx)
  ns : h.Ns1 dx mA
  ne : dx ≠ x

theorem lookIn_ns {h : Heap} {dx : Addr} {mA : Str → Option Value} (n : h.Ns1 dx mA) : ∃ od, h.get? dx = some od ∧ ∀ name, PySem.W.lookIn name od = some (mA name) := by
  obtain ⟨o, es, ep, ho, hd, hk, _, hm⟩ := n
  refine ⟨o, ho, fun name => ?_⟩
  have e := hm name
  unfold nsFind findBy at e
  rw [← Array.find?_toList] at e
  unfold PySem.W.lookIn
  rw [hd]
  dsimp only
  split
  · rename_i y q
    rw [q] at e
    exact congrArg some e
  · rename_i q
    rw [q] at e
    have a : es.toList.any (·.refKey) = false := by
      rw [List.any_eq_false]
      intro y hy
      obtain ⟨z, t, hkey⟩ := hk y (Array.mem_toList_iff.mp hy)
      simp [DictEntry.refKey, hkey]
    have a' : ¬ es.toList.any (·.refKey) = true := by rw [a]; exact Bool.false_ne_true
    rw [if_neg a']
    exact congrArg some e

theorem ObjM.look {h : Heap} {x dx C : Addr} {mA : Str → Option Value} (I : ObjM h x dx C mA) : ∃ od, PySem.W.InstAt h x (PySem.W.instObj C dx) C (some od) ∧ ∀ name, PySem.W.lookIn name od = some (mA name) :=
  let ⟨od, ho, hl⟩ := lookIn_ns I.ns
  ⟨od, ⟨I.obj, rfl, rfl, ho⟩, hl⟩

section
variable {prog : Program} {w : World} {A : Around} {E : Value → Shared → Prop} {s : Shared} {K : PySem.W.Frag} {x dx C f : Addr} {mA : Str → Option Value} {name : Str} {v : Value}





end



section
variable {P : Program} {w : World} {H H' : Hp} {h h' : Heap} {a C dx : Addr} {fs fs' : List (Str × V)}
theorem ins_get (hok : HOk P w H h) (e : H a = some (.ins C dx fs)) : ∃ mA, ObjM h a dx C mA ∧ (∀ f, RelO (fs.lookup f) (mA f)) ∧ PySem.Within mA (fs.map (·.1)) ∧ fs.length ≤ 1000 ∧ H dx = some (.own a) := by
  obtain ⟨d, z, ne, ob, mA, n, r, q⟩ := (show ObjOk P w H h a (.ins C dx fs) from hok a _ e)
  exact ⟨mA, ⟨ob, n, ne⟩, r, q, z, d⟩
end

structure Cls (K : PySem.W.Frag) (C : Addr) : Prop where
  pg : PySem.W.plainGet K C Str.empty = true
  hd : PySem.W.hasDictIn K C = true
  po : PySem.W.plainOver K C = true
  sa : PySem.W.findIn K (.ref C) "__setattr__" = some (some (.builtin "object.__setattr__"))
theorem Cls.get {K : PySem.W.Frag} {C : Addr} (c : Cls K C) (f : Str) : PySem.W.plainGet K C f = true := c.pg
structure Con (K : PySem.W.Frag) (C : Addr) (f : Str) (v : V) (u : Value) : Prop where
  at_ : PySem.W.findIn K (.ref C) f = some (some u)
  rel : RelV v u
  get : PySem.W.specialIn K u "__get__" = some none
  cp : PySem.W.copiedNames.contains f = false
structure Meth (K : PySem.W.Frag) (C : Addr) (m : Str) (f : Addr) : Prop where
  at_ : PySem.W.findIn K (.ref C) m = some (some (.ref f))
  fn : PySem.W.isFn K (.ref f) = true
  kp : PySem.W.keepIn K (.ref f) = true

section
variable {X : Cx} {pins : List (Addr × Obj)} {σ : St} {H : Hp} {s : Shared} {a C dx : Addr} {fs : List (Str × V)} {f : Str} {v : V} {A : Around} {E : Value → Shared → Prop}






end


section
variable {X : Cx} {o e value : Expr} {f : Str} {pos pos' tpos : Pos} {ta tv : TE}

end

section
variable {X : Cx} {pins : List (Addr × Obj)} {σ : St} {H : Hp} {s : Shared} {A : Around} {E : Value → Shared → Prop} {Q : Value → Shared → Prop} {c : Value} {b : Bool}
inductive TyOf (K : PySem.W.Frag) (H : Hp) : V → Value → Prop where
  | non : TyOf K H .non (.type "NoneType")
  | bl (x : Bool) : TyOf K H (.bl x) (.type "bool")
  | int (i : Int) : TyOf K H (.int i) (.type "int")
  | str (x : Str) : TyOf K H (.str x) (.type "str")
  | flt (x : UInt64) : TyOf K H (.flt x) (.type "float")
  | lst {a : Addr} {xs : List V} (e : H a = some (.lst xs)) : TyOf K H (.ref a) (.type "list")
  | frz {a : Addr} {o : Obj} {xs : List V} (e : H a = some (.frz o (.lst xs))) : TyOf K H (.ref a) (.type "list")
  | tup {a : Addr} {xs : List V} (e : H a = some (.tup xs)) : TyOf K H (.ref a) (.type "tuple")
  | dK {a : Addr} {kvs : List (Key × V)} (e : H a = some (.dK kvs)) : TyOf K H (.ref a) (.type "dict")
  | dT {a : Addr} {kvs : List (List Key × V)} (e : H a = some (.dT kvs)) : TyOf K H (.ref a) (.type "dict")
  | ins {a C dx : Addr} {fs : List (Str × V)} (e : H a = some (.ins C dx fs)) (cl : Cls K C) (ha : PySem.W.findIn K (.ref C) "__class__" = some (some (.builtin "object.__class__")))
      (hn : PySem.W.specialIn K (.builtin "object.__class__") "__get__" = some (some (.builtin "getset_descriptor.__get__"))) (htk : PySem.W.takesIn K (.builtin "object.__class__") = some true)
      (hm : PySem.W.mroIn K C (.type "object") = some true) : TyOf K H (.ref a) (.ref C)
theorem isinst_ok {x : V} {u t : Value} (I : Inv X pins σ H s) (rx : RelV x u) (ty : TyOf X.K H x t) (e : PySem.W.kitOne X.K t c = some b) (h : ∀ tk, Q (.bool b) { s with toks := tk }) :
    wpAny (model X.prog X.w) A (call (.builtin "isinstance") [u, c]) Q E s := by
  cases ty with
  | non => cases (show u = Value.none from rx); exact PySem.W.kia_one PySem.W.kitx_none I.kIn True.intro e (fun z => nomatch z) h
  | bl y => cases (show u = Value.bool y from rx); exact PySem.W.kia_one PySem.W.kitx_bool I.kIn True.intro e (fun z => nomatch z) h
  | int i => obtain ⟨t, q⟩ := (show ∃ t, u = Value.int i t from rx); cases q; exact PySem.W.kia_one PySem.W.kitx_int I.kIn True.intro e (fun z => nomatch z) h
  | str y => obtain ⟨t, q⟩ := (show ∃ t, u = Value.str y t from rx); cases q; exact PySem.W.kia_one PySem.W.kitx_str I.kIn True.intro e (fun z => nomatch z) h
  | flt y => obtain ⟨t, q⟩ := (show ∃ t, u = Value.float y t from rx); cases q; exact PySem.W.kia_one PySem.W.kitx_float I.kIn True.intro e (fun z => nomatch z) h
  | @lst a xs ea =>
    cases (show u = Value.ref a from rx)
    obtain ⟨_, _, n, _, h1⟩ := (show ObjOk X.prog X.w H s.heap a (.lst xs) from I.hok a _ ea)
    exact PySem.W.kia_one PySem.W.kitx_list I.kIn ⟨_, h1, rfl⟩ e (fun z => nomatch z) h
  | @frz a ob xs ea =>
    cases (show u = Value.ref a from rx)
    obtain ⟨_, _, _, n, _, h1⟩ := (show ObjOk X.prog X.w H s.heap a (.frz ob (.lst xs)) from I.hok a _ ea)
    exact PySem.W.kia_one PySem.W.kitx_list I.kIn ⟨_, h1, rfl⟩ e (fun z => nomatch z) h
  | @tup a xs ea =>
    cases (show u = Value.ref a from rx)
    obtain ⟨_, _, _, p⟩ := (show ObjOk X.prog X.w H s.heap a (.tup xs) from I.hok a _ ea)
    obtain ⟨o, h1, h2, _⟩ := p
    exact PySem.W.kia_one PySem.W.kitx_tuple I.kIn ⟨o, h1, h2⟩ e (fun z => nomatch z) h
  | @dK a kvs ea =>
    cases (show u = Value.ref a from rx)
    obtain ⟨_, _, vs, _, p⟩ := (show ObjOk X.prog X.w H s.heap a (.dK kvs) from I.hok a _ ea)
    obtain ⟨o, es, ep, h1, h2, _⟩ := p
    exact PySem.W.kia_one PySem.W.kitx_dict I.kIn ⟨o, h1, h2.1⟩ e (fun z => nomatch z) h
  | @dT a kvs ea =>
    cases (show u = Value.ref a from rx)
    obtain ⟨_, _, xs, _, o, es, ep, h1, h2, _⟩ := (show ObjOk X.prog X.w H s.heap a (.dT kvs) from I.hok a _ ea)
    exact PySem.W.kia_one PySem.W.kitx_dict I.kIn ⟨o, h1, h2.1⟩ e (fun z => nomatch z) h
  | @ins a C dx fs ea cl ha hn htk hm =>
    cases (show u = Value.ref a from rx)
    obtain ⟨mA, O, _⟩ := ins_get I.hok ea
    obtain ⟨od, J, _⟩ := O.look
    exact PySem.W.kia_one (PySem.W.kitx_own (cl.get _) cl.hd ha hn htk hm) I.kIn J e (fun z => nomatch z) h
end
end L2

namespace L2
open PySem PySem.Spec PyProof.Rows

structure Room (k : Nat) (A : Around) : Prop where
  hd : A.handled = none
  dp : A.depth + 3 * k + 5 < recursionLimit
  un : A.units + 16 * k + 200 < cLine
theorem Room.mono {j k : Nat} {A : Around} (r : Room k A) (h : j ≤ k) : Room j A := ⟨r.hd, by have := r.dp; omega, by have := r.un; omega⟩
theorem Room.deeper {k : Nat} {A : Around} (r : Room (k + 1) A) (env : Env) : Room k (A.deeper env) :=
  ⟨r.hd, by have := r.dp; show A.depth + 1 + 3 * k + 5 < _; omega, by have := r.un; show A.units + 3 + 16 * k + 200 < _; omega⟩
theorem Room.depth {k : Nat} {A : Around} (r : Room k A) : A.depth < recursionLimit := by have := r.dp; omega
theorem Room.units {k : Nat} {A : Around} (r : Room k A) : A.units + 64 < cLine := by have := r.un; omega

noncomputable def tNil : TA := fun _ H Q => Q [] H
noncomputable def tCons (ta : TE) (tr : TA) : TA := fun σ H Q => ta σ H fun x H1 => tr σ H1 fun xs H2 => Q (x :: xs) H2
section
variable {X : Cx} {e : Expr} {es : List Expr} {te : TE} {t : TA} {pos : Pos}
theorem pa_nil : PA X [] tNil := fun _ _ _ _ H Q I h => Calls.spliced_nil ⟨[], H, I, .nil, h⟩
theorem pa_cons (ha : PE X e te) (hr : PA X es t) (hs : starEach (e :: es) X.env = (false, eval e X.env) :: starEach es X.env := by rfl) : PA X (e :: es) (tCons te t) := by
  intro pos pins s σ H Q I h
  rw [hs]
  show wpAny _ _ (spliced ((false, eval e X.env) :: backTo pos (starEach es X.env))) _ _ s
  refine Calls.spliced_cons (thn (ha pins s σ H _ I h) fun u s1 ⟨x, H1, I1, r1, q1⟩ => ?_)
  exact thn (hr pos pins s1 σ H1 _ I1 q1) fun us s2 ⟨xs, H2, I2, r2, q2⟩ => ⟨x :: xs, H2, I2, .cons r1 r2, q2⟩

noncomputable def tTup (t : TA) : TE := fun σ H Q => t σ H fun xs H1 => xs.length ≤ sizeLine ∧ ∀ p, H1 p = none → Q (.ref p) (upd H1 p (.tup xs))
noncomputable def tLst (t : TA) : TE := fun σ H Q => t σ H fun xs H1 => xs.length ≤ sizeLine ∧ ∀ p, H1 p = none → Q (.ref p) (upd H1 p (.lst xs))
theorem pe_tup {x1} (h : PA X es t) : PE X (.Tuple es x1 pos) (tTup t) := by
  intro pins s σ H Q I hq
  refine wpAny_Tuple_spliced (thn (h pos pins s σ H _ I hq) fun us s1 ⟨xs, H1, I1, r, z, q⟩ => ⟨by rw [← r.length]; exact z, ?_⟩)
  have hf : H1 s1.heap.objs.size = none := I1.hok.fresh (Nat.le_refl _)
  refine ⟨.ref s1.heap.objs.size, upd H1 s1.heap.objs.size (.tup xs), I1.laid (t' := s1.toks) (fun b u e => Heap.get?_push_of_some _ e) (Nat.le_refl _) ?_, rfl, q _ hf⟩
  exact ⟨z, us, r, ⟨_, Heap.get?_push_size _ rfl, rfl, _, rfl⟩⟩
theorem pe_lst (h : PA X es t) : PE X (.List es pos) (tLst t) := by
  intro pins s σ H Q I hq
  refine wpAny_List_spliced (thn (h pos pins s σ H _ I hq) fun us s1 ⟨xs, H1, I1, r, z, q⟩ => ⟨by rw [← r.length]; exact z, ?_⟩)
  have hf : H1 s1.heap.objs.size = none := I1.hok.fresh (Nat.le_refl _)
  refine ⟨.ref s1.heap.objs.size, upd H1 s1.heap.objs.size (.lst xs), I1.laid (t' := s1.toks) (fun b u e => Heap.get?_push_of_some _ e) (Nat.le_refl _) ?_, rfl, q _ hf⟩
  exact ⟨z, us, 0, r, Heap.get?_push_size _ rfl⟩
end

abbrev Sp := List V → Hp → VK → XK → Prop
abbrev CXT := List Env → Hp → Shared → XK → Value → Shared → Prop

structure Env0 (P : Program) (w : World) (K : PySem.W.Frag) (mg : Str → Option Value) (base : Heap) (A : Around) (outer : List Env) (s : Shared) (H : Hp) : Prop where
  frames : A.frames = some outer
  mod : Mod K mg base
  bs : ∀ b o, base.get? b = some o → s.heap.get? b = some o ∧ H b = none
  bsz : base.objs.size ≤ s.heap.objs.size
  funs : s.heap.FunFrames base outer
  frf : ∀ b ∈ frs outer, H b = none
  hok : HOk P w H s.heap
  bare : AllBare s.gens
noncomputable def CE (outer : List Env) (P : Program) (w : World) (H : Hp) (s : Shared) (Q : VK) (u : Value) (s' : Shared) : Prop :=
  ∃ v H', s'.os = s.os ∧ AllBare s'.gens ∧ Un (frs outer) [] H H' s.heap s'.heap ∧ HOk P w H' s'.heap ∧ RelV v u ∧ Q v H'
noncomputable def CR (CX : CXT) (outer : List Env) (P : Program) (w : World) (H : Hp) (s : Shared) (Q : VK) (E : XK) (r : Result) (s' : Shared) : Prop :=
  match r with
  | .ok (.ret u) => CE outer P w H s Q u s'
  | .ok _ => False
  | .error e => CX outer H s E e s'
structure FnOk (P : Program) (w : World) (K : PySem.W.Frag) (mg : Str → Option Value) (base : Heap) (CX : CXT) (k : Nat) (f : Addr) (fd : FuncData) (ps : List Str) (sp : Sp) : Prop where
  len : ∀ vs H Q E, sp vs H Q E → vs.length = ps.length
  run : ∀ (A : Around) (outer : List Env) (s : Shared) (H : Hp) (args : Args) (us : List Value) (vs : List V) (Q : VK) (E : XK), Room k A → Env0 P w K mg base A outer s H → BindsTo s fd args (ps.zip us) → Vals vs us → sp vs H Q E →
    codeAny (model P w) A (.call (.ref f) args) (CR CX outer P w H s Q E) s


section
variable {X : Cx} {pins : List (Addr × Obj)} {σ : St} {H : Hp} {s s' : Shared}
theorem Inv.env0 (I : Inv X pins σ H s) : Env0 X.prog X.w X.K X.mg X.base X.A X.stack s H :=
  ⟨I.ok.frames, I.ok.mod, I.bs, Nat.le_trans I.ok.bsz I.sz, I.stack, I.stkFree, I.hok, I.bare⟩
theorem Inv.after {Q : VK} {u : Value} (I : Inv X pins σ H s) (h : CE X.stack X.prog X.w H s Q u s') : EP X pins σ Q u s' := by
  obtain ⟨v, H', os, bare, un, hok, r, q⟩ := h
  obtain ⟨hh, g, d, t, os'⟩ := s'
  obtain rfl : os' = s.os := os
  exact ⟨v, H', I.call (h' := hh) (g' := g) (d' := d) (t' := t) (ch := []) un hok bare (fun b z => absurd z (by simp)), r, q⟩
end

noncomputable def tCall (sp : Sp) (dvs : List V) (E : XK) (t : TA) : TE := fun σ H Q => t σ H fun vs H1 => sp (vs ++ dvs) H1 Q E

noncomputable def Binds (K : PySem.W.Frag) (fd : FuncData) (ps : List Str) (ds : List Value) : Prop :=
  ∀ (s : Shared) (us : List Value), K.In s.heap → (us ++ ds).length = ps.length → BindsTo s fd ⟨us, []⟩ (ps.zip (us ++ ds))
theorem Binds.all {K : PySem.W.Frag} {fd : FuncData} {ps : List Str} (h : ∀ us : List Value, us.length = ps.length → bindArgs fd ⟨us, []⟩ = pure (ps.zip us)) : Binds K fd ps [] := fun s us _ hl => by
  rw [List.append_nil] at hl ⊢
  exact .of_eq (h us hl)

noncomputable def Passes (CX : CXT) (X : Cx) (E : XK) : Prop := ∀ (pins : List (Addr × Obj)) (σ : St) (H : Hp) (s : Shared) (e : Value) (s' : Shared), Inv X pins σ H s → CX X.stack H s E e s' → X.xe e s'

section
variable {X : Cx} {CX : CXT} {k : Nat} {f C : Addr} {fd : FuncData} {ps : List Str} {sp : Sp} {dvs : List V} {ds : List Value} {E : XK} {x m : Str} {p pos apos : Pos} {e o : Expr} {es : List Expr} {ta : TE} {t : TA}

theorem run_fn {pins : List (Addr × Obj)} {σ : St} {H : Hp} {s : Shared} {Q : VK} {us : List Value} {vs : List V} (F : FnOk X.prog X.w X.K X.mg X.base CX k f fd ps sp) (hr : Room k X.A) (hb : Binds X.K fd ps ds) (hd : Vals dvs ds) (hx : Passes CX X E)
    (I : Inv X pins σ H s) (r : Vals vs us) (h : sp (vs ++ dvs) H Q E) : wpAny (model X.prog X.w) X.A (call (.ref f) us) (EP X pins σ Q) X.xe s := by
  have r2 : Vals (vs ++ dvs) (us ++ ds) := r.append hd
  have hl : (us ++ ds).length = ps.length := by rw [← r2.length]; exact F.len _ _ _ _ h
  refine wpAny_call (codeAny_mono (F.run X.A X.stack s H ⟨us, []⟩ (us ++ ds) (vs ++ dvs) Q E hr I.env0 (hb s us I.kIn hl) r2 h) fun r s' hq => ?_)
  cases r with
  | error e => exact hx pins σ H s e s' I hq
  | ok fl =>
    cases fl with
    | ret u => exact I.after hq
    | next => exact False.elim hq
    | brk => exact False.elim hq
    | cont => exact False.elim hq

theorem pe_call (F : FnOk X.prog X.w X.K X.mg X.base CX k f fd ps sp) (hr : Room k X.A) (hg : Gl X x) (hm : X.mg x = some (.ref f)) (hk : PySem.W.keepIn X.K (.ref f) = true) (hb : Binds X.K fd ps ds) (hd : Vals dvs ds) (hx : Passes CX X E)
    (ha : PA X (e :: es) t) (hdb : (x == ("__debug__" : Str)) = false := by decide) (he : starEach (e :: es) X.env = (false, eval e X.env) :: starEach es X.env := by rfl) (hpl : (backTo pos (starEach es X.env)).any (·.1) = false := by rfl) :
    PE X (.Call (.Name x p) (e :: es) [] pos) (tCall sp dvs E t) := by
  intro pins s σ H Q I h
  refine wpAny_Call_Name_kw (ld_glob I hg hm ?_ hdb)
  refine PySem.W.callWith_K (h₀ := X.base) I.ok.mod.kin hk (thn (ha pos pins s σ H _ I h) fun us s1 ⟨vs, H1, I1, r, q⟩ => ⟨I1.kIn, ?_⟩) he hpl
  exact run_fn F hr hb hd hx I1 r q


structure Mk (K : PySem.W.Frag) (C f : Addr) : Prop where
  makes : PySem.W.makesIn K C = true
  init : PySem.W.findIn K (.ref C) "__init__" = some (some (.ref f))
  fn : PySem.W.isFn K (.ref f) = true
  kp : PySem.W.keepIn K (.ref C) = true

end

section
variable {X : Cx} {CX : CXT} {k : Nat} {f C : Addr} {fd : FuncData} {ps ks : List Str} {sp : Sp} {E : XK} {x m : Str} {p pos apos kpos : Pos} {e o : Expr} {es : List Expr} {kws : List Keyword} {te ta : TE} {t tk : TA} {nm : Option Str}

structure KBinds (K : PySem.W.Frag) (fd : FuncData) (ps ks : List Str) (g : List Value → List Value → List Value) (gV : List V → List V → List V) : Prop where
  to : ∀ (s : Shared) (us ws : List Value), K.In s.heap → (g us ws).length = ps.length → BindsTo s fd ⟨us, ks.zip ws⟩ (ps.zip (g us ws))
  rel : ∀ {vs : List V} {us : List Value} {zs : List V} {ws : List Value}, Vals vs us → Vals zs ws → Vals (gV vs zs) (g us ws)
variable {g : List Value → List Value → List Value} {gV : List V → List V → List V}
end

structure FnScope (N P : List Str) (sc : Scope) : Prop where
  kind : sc.kind = .function
  co : sc.isCoroutine = false
  gen : sc.isGenerator = false
  nd : N.Nodup
  pre : N.take P.length = P
  par : ∀ x ∈ P, sc.names.lookup x = some .local ∨ sc.names.lookup x = some .cell
  nofree : ∀ y ∈ sc.names, y.2 ≠ .free

theorem bindL_out {kindOf : Str → Option NameKind} {x : Str} : ∀ {binds : List (Str × Value)} {m : Str → Option Value}, (∀ v, (x, v) ∉ binds) → bindL kindOf binds m x = m x
  | [], _, _ => rfl
  | (n, v) :: r, m, h => by
    unfold bindL
    rw [bindL_out fun w hw => h w (List.mem_cons_of_mem _ hw)]
    split
    · have : x ≠ n := by rintro rfl; exact h v List.mem_cons_self
      simp [this]
    · rfl
theorem bindC_out {kindOf : Str → Option NameKind} {x : Str} : ∀ {binds : List (Str × Value)} {m : Str → Option Value}, (∀ v, (x, v) ∉ binds) → bindC kindOf binds m x = m x
  | [], _, _ => rfl
  | (n, v) :: r, m, h => by
    unfold bindC
    rw [bindC_out fun w hw => h w (List.mem_cons_of_mem _ hw)]
    split
    · rfl
    · have : x ≠ n := by rintro rfl; exact h v List.mem_cons_self
      simp [this]
theorem bindL_get {kindOf : Str → Option NameKind} {x : Str} {v : Value} : ∀ {P : List Str} {vs : List Value} {i : Nat} {m : Str → Option Value}, P.Nodup → P[i]? = some x → vs[i]? = some v → kindOf x = some .local →
    bindL kindOf (P.zip vs) m x = some v
  | [], _, _, _, _, h, _, _ => by simp at h
  | _ :: _, [], _, _, _, _, h, _ => by simp at h
  | p :: P, w :: vs, 0, m, nd, h1, h2, hk => by
    simp at h1 h2; subst h1; subst h2
    show bindL kindOf ((p, w) :: P.zip vs) m p = _
    unfold bindL
    rw [bindL_out fun v hv => (List.nodup_cons.mp nd).1 (List.of_mem_zip hv).1, if_pos hk]
    simp
  | p :: P, w :: vs, i + 1, m, nd, h1, h2, hk => by
    show bindL kindOf ((p, w) :: P.zip vs) m x = _
    unfold bindL
    exact bindL_get (i := i) (List.nodup_cons.mp nd).2 (by simpa using h1) (by simpa using h2) hk
theorem bindC_get {kindOf : Str → Option NameKind} {x : Str} {v : Value} : ∀ {P : List Str} {vs : List Value} {i : Nat} {m : Str → Option Value}, P.Nodup → P[i]? = some x → vs[i]? = some v → kindOf x ≠ some .local →
    bindC kindOf (P.zip vs) m x = some v
  | [], _, _, _, _, h, _, _ => by simp at h
  | _ :: _, [], _, _, _, _, h, _ => by simp at h
  | p :: P, w :: vs, 0, m, nd, h1, h2, hk => by
    simp at h1 h2; subst h1; subst h2
    show bindC kindOf ((p, w) :: P.zip vs) m p = _
    unfold bindC
    rw [bindC_out fun v hv => (List.nodup_cons.mp nd).1 (List.of_mem_zip hv).1, if_neg hk]
    simp
  | p :: P, w :: vs, i + 1, m, nd, h1, h2, hk => by
    show bindC kindOf ((p, w) :: P.zip vs) m x = _
    unfold bindC
    exact bindC_get (i := i) (List.nodup_cons.mp nd).2 (by simpa using h1) (by simpa using h2) hk

noncomputable def start (N : List Str) (vs : List V) : St := vs.map some ++ List.replicate (N.length - vs.length) none

noncomputable def cxOf (CX : CXT) (P : Program) (w : World) (K : PySem.W.Frag) (mg : Str → Option Value) (base : Heap) (N : List Str) (qual : Str) (scope : Scope) (f : Addr) (cd : Value) (A : Around) (outer : List Env) (s : Shared) (H : Hp) (E : XK) : Cx where
  prog := P
  w := w
  K := K
  mg := mg
  base := base
  A := A.deeper (envOfC qual scope s.heap.objs.size f cd)
  N := N
  s₀ := s
  H₀ := H
  env := envOfC qual scope s.heap.objs.size f cd
  outer := outer
  stack := envOfC qual scope s.heap.objs.size f cd :: outer
  ex := []
  calm := true
  fn := fun _ => true
  pn := []
  xe := fun e s' => wpAny (model P w) (A.deeper (envOfC qual scope s.heap.objs.size f cd)) (leaving (envOfC qual scope s.heap.objs.size f cd) e) (fun _ s'' => CX outer H s E e s'') (fun e' s'' => CX outer H s E e' s'') s'

theorem cell_has {sc : Scope} {n : Nat} {x : Str} (h : sc.names.lookup x = some .cell) : ∃ c, (cellsFrom n sc.names []).lookup x = some c := by
  have q := PySem.W.cellsFrom_some sc.names n [] (.inl h)
  exact Option.isSome_iff_exists.mp q

theorem inv_start {CX : CXT} {P : Program} {w : World} {K : PySem.W.Frag} {mg : Str → Option Value} {base : Heap} {N ps : List Str} {qual : Str} {scope : Scope} {f : Addr} {cd : Value} {A : Around} {outer : List Env} {s s1 : Shared} {H : Hp} {E : XK} {us : List Value} {vs : List V}
    (S : FnScope N ps scope) (hd : A.handled = none) (e0 : Env0 P w K mg base A outer s H) (hl : vs.length = ps.length) (r : Vals vs us)
    (x : InCallC s s.heap.objs.size (bindL (envOfC qual scope s.heap.objs.size f cd).kindOf (ps.zip us) fun _ => none) (cellsFrom (s.heap.objs.size + 1) scope.names []) (bindC (envOfC qual scope s.heap.objs.size f cd).kindOf (ps.zip us) fun _ => none) s1) :
    Inv (cxOf CX P w K mg base N qual scope f cd A outer s H E) [] (start N vs) H s1 := by
  have hpl : ps.length ≤ N.length := by have := congrArg List.length S.pre; rw [List.length_take] at this; omega
  obtain ⟨h1, tk, rfl, hk⟩ := x.done
  have noA : ∀ b : Addr, b ∉ (cxOf CX P w K mg base N qual scope f cd A outer s H E).ex := fun b z => absurd (show b ∈ ([] : List Addr) from z) (by simp)
  refine ⟨⟨e0.mod, S.kind, rfl, rfl, Nat.le_refl _, fun y z c h1 h2 => ?_, fun y hy => ?_, fun y c _ h => ?_, fun _ => hd, Around.frames_deeper e0.frames, .inr ⟨rfl, rfl⟩, fun b z => absurd z (noA b), e0.bs, e0.bsz, fun b _ _ => noA b, fun b z => absurd z (noA b), e0.funs, e0.frf⟩,
    rfl, e0.bare, Un.kept hk, ⟨_, x.toInCall.ns, fun i y v h1 h2 h3 => ?_⟩, fun y c h => ⟨_, x.cell y c h⟩, e0.hok.fresh (Nat.le_refl _), fun y c h => ?_, fun p hp => absurd (show p ∈ ([] : List (Addr × Obj)) from hp) (by simp), e0.hok.kept hk, ?_⟩
  · exact name_of_addr x.apart (PySem.mem_of_lookup h1) (PySem.mem_of_lookup h2)
  · have hy : scope.names.lookup y = some .cell ∨ scope.names.lookup y = some .free := hy
    rcases hy with hy | hy
    · exact cell_has hy
    · exact absurd rfl (S.nofree _ (PySem.mem_of_lookup hy))
  · exact Nat.le_of_lt (x.above y c (PySem.mem_of_lookup h))
  · have hi : i < vs.length := by
      unfold start at h2
      by_cases hi : i < vs.length
      · exact hi
      · rw [List.getElem?_append_right (by simpa using hi)] at h2
        rw [List.getElem?_replicate] at h2
        split at h2 <;> cases h2
    have ha : vs[i]? = some v := by
      unfold start at h2
      rw [List.getElem?_append_left (by simpa using hi), List.getElem?_map] at h2
      cases e : vs[i]? with
      | none => rw [e] at h2; cases h2
      | some a => rw [e] at h2; cases h2; rfl
    obtain ⟨u, hu, rv⟩ := r.get ha
    have hp : ps[i]? = some y := by
      rw [← S.pre, List.getElem?_take_of_lt (by omega)]; exact h1
    have ndP : ps.Nodup := by rw [← S.pre]; exact S.nd.sublist (List.take_sublist _ _)
    refine ⟨u, rv, ?_⟩
    rcases S.par y (List.mem_of_getElem? hp) with k | k
    · exact .inl ⟨k, bindL_get ndP hp hu k⟩
    · obtain ⟨c, e⟩ := cell_has (n := s.heap.objs.size + 1) k
      refine .inr ⟨.inl k, c, e, ?_⟩
      have q := x.cell y c e
      rw [bindC_get ndP hp hu (by show scope.names.lookup y ≠ _; rw [k]; decide)] at q
      exact q
  · exact e0.hok.fresh (Nat.le_of_lt (x.above y c (PySem.mem_of_lookup h)))
  · unfold start
    show _ = N.length
    rw [List.length_append, List.length_map, List.length_replicate]
    omega

theorem fn_of {CX : CXT} {P : Program} {w : World} {K : PySem.W.Frag} {mg : Str → Option Value} {base : Heap} {k : Nat} {f : Addr} {name qual : Str} {params : Arguments} {body : List Stmt} {scope : Scope} {dV kV doc pm cdv ct oc : Value} {an od : Option Addr}
    {osl : Array (Option Value)} {N ps : List Str} {sp : Sp} (lk : K.lookup f = some ⟨oc, od, .func (PySem.W.fnOf name qual params body scope dV kV doc pm an cdv ct), osl⟩) (hcd : PySem.W.codeIn K cdv qual = true) (S : FnScope N ps scope)
    (len : ∀ vs H Q E, sp vs H Q E → vs.length = ps.length)
    (hbody : ∀ (A : Around) (outer : List Env) (s : Shared) (H : Hp) (vs : List V) (Q : VK) (E : XK), Room k (A.deeper (envOfC qual scope s.heap.objs.size f cdv)) → sp vs H Q E →
      ∃ t, PSs (cxOf CX P w K mg base N qual scope f cdv A outer s H E) body t ∧ t { nx := fun _ H' => Q .non H', rt := Q } (start N vs) H) :
    FnOk P w K mg base CX (k + 1) f (PySem.W.fnOf name qual params body scope dV kV doc pm an cdv ct) ps sp := by
  refine ⟨len, fun A outer s H args us vs Q E hr e0 hb r hsp => ?_⟩
  have hl := len _ _ _ _ hsp
  have KX : K.In s.heap := e0.mod.kin.keeps fun b o e => (e0.bs b o e).1
  have lim : s.heap.NoLimit := e0.mod.nolimit.keeps fun b o e => (e0.bs b o e).1
  have hkind : ∀ y ∈ ps.zip us, scope.names.lookup y.1 = some .local ∨ (scope.names.lookup y.1 = some .cell ∧ ((cellsFrom (s.heap.objs.size + 1) scope.names []).lookup y.1).isSome = true) := fun ⟨n, v⟩ hy => by
    rcases S.par n (List.of_mem_zip hy).1 with q | q
    · exact .inl q
    · exact .inr ⟨q, PySem.W.cellsFrom_some _ _ _ (.inl q)⟩
  refine codeAny_call_function hr.depth (KX _ _ lk) rfl S.co S.gen rfl (PySem.W.codeRec_of KX hcd) (hb _ _ _ _ ?_)
  refine wpAny_newFunctionEnv_cells S.kind hkind fun env he s1 x => ?_
  subst he
  refine ⟨lim.keeps x.toInCall.keep, codeAny_func ?_⟩
  obtain ⟨t, ht, hq⟩ := hbody A outer s H vs Q E (hr.deeper _) hsp
  have I : Inv (cxOf CX P w K mg base N qual scope f cdv A outer s H E) [] (start N vs) H s1 := inv_start S hr.hd e0 hl r x
  refine wpAny_mono (ht [] s1 (start N vs) H _ I hq) (fun fl s' hs => ?_) fun e s' hs => hs
  have fin : ∀ {σ' : St} {H' : Hp} {v : V} {u : Value}, Inv (cxOf CX P w K mg base N qual scope f cdv A outer s H E) [] σ' H' s' → RelV v u → Q v H' → CE outer P w H s Q u s' :=
    fun {σ' H' v u} J rv q => ⟨v, H', J.os, J.bare, J.base, J.hok, rv, q⟩
  cases fl with
  | ret u =>
    obtain ⟨v, σ', H', J, rv, q⟩ := hs
    exact fin J rv q
  | next =>
    obtain ⟨σ', H', J, q⟩ := hs
    exact fin (v := V.non) (u := Value.none) J rfl q
  | brk =>
    obtain ⟨_, _, _, q⟩ := hs
    exact False.elim q
  | cont =>
    obtain ⟨_, _, _, q⟩ := hs
    exact False.elim q
end L2

namespace L2
open PySem PySem.Spec PyProof.Rows
section
variable {X : Cx} {x : Str} {p pos : Pos} {e : Expr} {es : List Expr} {t : TA} {id T : String} {r : List V → Hp → VK → Prop}

noncomputable def tCB (r : List V → Hp → VK → Prop) (t : TA) : TE := fun σ H Q => t σ H fun vs H1 => r vs H1 Q
theorem pe_callB (hc : CallR X (.builtin id) r) (hg : Gl X x) (hm : X.mg x = none) (hv : bootBuiltins x = some (.builtin id)) (ha : PA X (e :: es) t) (hn : x ≠ "__name__" := by decide) (hdb : (x == ("__debug__" : Str)) = false := by decide)
    (he : starEach (e :: es) X.env = (false, eval e X.env) :: starEach es X.env := by rfl) (hpl : (backTo pos (starEach es X.env)).any (·.1) = false := by rfl) : PE X (.Call (.Name x p) (e :: es) [] pos) (tCB r t) := by
  intro pins s σ H Q I h
  refine wpAny_Call_Name_kw (ld_blt I hg hm hv ?_ hn hdb)
  exact PyProof.Rows.callWith_builtin1 (thn (ha pos pins s σ H _ I h) fun us s1 ⟨vs, H1, I1, r1, q1⟩ => hc pins s1 σ H1 vs us Q I1 r1 q1) he hpl
theorem pe_callTy (hc : CallR X (.type T) r) (hg : Gl X x) (hm : X.mg x = none) (hv : bootBuiltins x = some (.type T)) (ha : PA X (e :: es) t) (hn : x ≠ "__name__" := by decide) (hdb : (x == ("__debug__" : Str)) = false := by decide)
    (he : starEach (e :: es) X.env = (false, eval e X.env) :: starEach es X.env := by rfl) (hpl : (backTo pos (starEach es X.env)).any (·.1) = false := by rfl) : PE X (.Call (.Name x p) (e :: es) [] pos) (tCB r t) := by
  intro pins s σ H Q I h
  refine wpAny_Call_Name_kw (ld_blt I hg hm hv ?_ hn hdb)
  exact PyProof.Rows.callWith_type1 (thn (ha pos pins s σ H _ I h) fun us s1 ⟨vs, H1, I1, r1, q1⟩ => hc pins s1 σ H1 vs us Q I1 r1 q1) he hpl
end
end L2

namespace HT
open PySem PyProof.Rows



section
open PySem.SeqAt
open PySem.AutoSeq1 (wpAny_loadPart')
open PySem.MeetsSeq PySem.MeetsSeq2 PySem.MeetsSeq3

end

section
variable {prog : Program} {w : World} {A : Around} {E : Value → Shared → Prop} {s : Shared}


theorem cat_tup {t b : Addr} {vs ws : List Value} {Q : Value → Shared → Prop} (ht : IsTup s.heap t vs.toArray) (hb : IsTup s.heap b ws.toArray) (hv : vs ≠ [])
    (h1 : ws = [] → Q (.ref t) s) (h2 : ws ≠ [] → Q (.ref s.heap.objs.size) { s with heap := s.heap.push { cls := .type "tuple", data := .seq (vs ++ ws).toArray } })
    (hsz : vs.length + ws.length ≤ sizeLine) : wpAny (model prog w) A (binaryOp .Add (.ref t) (.ref b)) Q E s := by
  obtain ⟨⟨cls, dd, data, sl⟩, ho, hc, n, hd⟩ := id ht
  obtain ⟨⟨cls2, dd2, data2, sl2⟩, ho2, hc2, n2, hd2⟩ := id hb
  simp only at hc hd hc2 hd2
  subst hc hd hc2 hd2
  have e : vs.toArray ++ ws.toArray = (vs ++ ws).toArray := by simp
  by_cases hw : ws = []
  · exact concat_meets ⟨_, ho, rfl⟩ ⟨_, ho2, rfl⟩ noFill_tuple_add seq_tuple_add PySem.F.slot_tuple_add PySem.F.entry_tuple_add (PySem.F.args_tuple_add_2 _ _)
      (tuple_addW1 t b vs.toArray ws.toArray n n2 dd dd2 sl sl2 (by simpa using hv) (by simp [hw])) ⟨ho, ho2, h1 hw⟩
  · refine concat_meets ⟨_, ho, rfl⟩ ⟨_, ho2, rfl⟩ noFill_tuple_add seq_tuple_add PySem.F.slot_tuple_add PySem.F.entry_tuple_add (PySem.F.args_tuple_add_2 _ _)
      (tuple_addW2 t b vs.toArray ws.toArray n n2 dd dd2 sl sl2 (by simpa using hv) (by simpa using hw) (by rw [List.size_toArray, List.size_toArray]; exact hsz)) ⟨ho, ho2, ?_⟩
    rw [e]
    exact h2 hw

noncomputable def sIx (n d : Nat) : Option Int → Nat
  | none => d
  | some v => if v < 0 then (v + (n : Int)).toNat else min v.toNat n
theorem sIx_none (n d : Nat) : sIx n d none = d := rfl
theorem sIx_nat (n d k : Nat) : sIx n d (some (k : Int)) = min k n := by
  show (if (k : Int) < 0 then ((k : Int) + (n : Int)).toNat else min (k : Int).toNat n) = min k n
  rw [if_neg (by omega), Int.toNat_natCast]
theorem sIx_le (n d : Nat) (hd : d ≤ n) (o : Option Int) : sIx n d o ≤ n := by
  cases o with
  | none => exact hd
  | some v =>
    show (if v < 0 then (v + (n : Int)).toNat else min v.toNat n) ≤ n
    by_cases hv : v < 0
    · rw [if_pos hv]; omega
    · rw [if_neg hv]; exact Nat.min_le_right _ _
theorem clip_eq (v : Int) (n d : Nat) : (if v < 0 then max (v + (n : Int)) 0 else min v (n : Int)) = ((sIx n d (some v) : Nat) : Int) := by
  show (if v < 0 then max (v + (n : Int)) 0 else min v (n : Int)) = (((if v < 0 then (v + (n : Int)).toNat else min v.toNat n) : Nat) : Int)
  by_cases hv : v < 0
  · simp only [if_pos hv]; omega
  · simp only [if_neg hv]; omega
theorem adjust_gen (lo hi : Option Int) (n : Nat) : Builtin.Slice.sliceAdjust lo hi 1 (n : Int) = (((sIx n 0 lo : Nat) : Int), ((sIx n n hi : Nat) : Int)) := by
  have h1 : ¬ ((1 : Int) < 0) := by omega
  unfold Builtin.Slice.sliceAdjust
  simp only [h1, if_false]
  refine Prod.ext ?_ ?_
  · cases lo with
    | none => rfl
    | some v => exact clip_eq v n 0
  · cases hi with
    | none => rfl
    | some v => exact clip_eq v n n
theorem places_gen (i j : Nat) : Builtin.Slice.slicePlaces (i : Int) (j : Int) 1 = j - i := by
  unfold Builtin.Slice.slicePlaces
  have h1 : (1 : Int) > 0 := by omega
  simp only [h1, if_true, Int.ediv_one]
  split <;> omega
theorem slicePart_ {v : Value} {o : Option Int} {Q : Option Int → Shared → Prop} (p : IsPart v o) (h : Q o s) : wpAny (model prog w) A (Builtin.Slice.slicePartIndex v) Q E s := by
  cases p with
  | none => exact slicePart_none h
  | int i t => exact slicePart_int h
theorem sliceApplied_gen {sl : Addr} {vl vu : Value} {lo hi : Option Int} {n : Nat} {Q : Int × Int × Nat → Shared → Prop} (hs : s.heap.IsSliceOf sl vl vu .none) (pl : IsPart vl lo) (pu : IsPart vu hi)
    (h : Q (((sIx n 0 lo : Nat) : Int), 1, sIx n n hi - sIx n 0 lo) s) : wpAny (model prog w) A (Builtin.Slice.sliceApplied (.ref sl) (pure (n : Int))) Q E s := by
  obtain ⟨os, hos, hcs, hds⟩ := id hs
  unfold Builtin.Slice.sliceApplied Builtin.Slice.sliceFields
  refine wpAny_bind (wpAny_bind (wpAny_field hos hds (x := vl) rfl (wpAny_bind (wpAny_field hos hds (x := vu) rfl (wpAny_bind (wpAny_field hos hds (x := .none) rfl (wpAny_pure ?_)))))))
  refine wpAny_bind (slicePart_none ?_)
  show wpAny _ _ (if ((1 : Int) == 0) = true then _ else _) _ _ s
  rw [if_neg (by decide)]
  refine wpAny_bind (slicePart_ pl (wpAny_bind (slicePart_ pu (wpAny_bind (wpAny_pure ?_)))))
  show wpAny _ _ (match Builtin.Slice.sliceAdjust lo hi 1 (n : Int) with | (lo, hi) => pure (lo, (1 : Int), Builtin.Slice.slicePlaces lo hi 1)) _ _ s
  rw [adjust_gen lo hi n]
  show wpAny _ _ (pure (((sIx n 0 lo : Nat) : Int), (1 : Int), Builtin.Slice.slicePlaces ((sIx n 0 lo : Nat) : Int) ((sIx n n hi : Nat) : Int) 1)) _ _ s
  rw [places_gen]
  exact wpAny_pure h
theorem pick_gen (xs : Array Value) (i k : Nat) : ((List.range k).filterMap fun (m : Nat) => xs[((i : Int) + (m : Int) * 1).toNat]?).toArray = ((xs.toList.drop i).take k).toArray := by
  have e : (fun (m : Nat) => xs[((i : Int) + (m : Int) * 1).toNat]?) = fun m => xs[i + m]? := by
    funext m
    have : ((i : Int) + (m : Int) * 1).toNat = i + m := by omega
    rw [this]
  rw [e]
  have := pick_run xs i k
  rw [List.filterMap_map] at this
  have e2 : ((fun x => xs[x]?) ∘ fun x => i + x) = fun m => xs[i + m]? := rfl
  rw [e2] at this
  rw [this]

theorem getItem_tuple_cut {t sl : Addr} {items : Array Value} {vl vu : Value} {lo hi : Option Int} {Q : Value → Shared → Prop} (ht : IsTup s.heap t items) (hs : s.heap.IsSliceOf sl vl vu .none) (pl : IsPart vl lo) (pu : IsPart vu hi)
    (hw : ¬ (sIx items.size 0 lo = 0 ∧ sIx items.size items.size hi = items.size))
    (h : Q (.ref s.heap.objs.size) { s with heap := s.heap.push { cls := .type "tuple", data := .seq ((items.toList.drop (sIx items.size 0 lo)).take (sIx items.size items.size hi - sIx items.size 0 lo)).toArray } })
    (hsz : items.size ≤ sizeLine) : wpAny (model prog w) A (getItem (.ref t) (.ref sl)) Q E s := by
  have htake : sizeOk (.seq ((items.toList.drop (sIx items.size 0 lo)).take (sIx items.size items.size hi - sIx items.size 0 lo)).toArray) := by
    show ((items.toList.drop (sIx items.size 0 lo)).take (sIx items.size items.size hi - sIx items.size 0 lo)).toArray.size ≤ sizeLine
    rw [List.size_toArray, List.length_take, List.length_drop, Array.length_toList]
    omega
  have hj : sIx items.size items.size hi ≤ items.size := sIx_le _ _ (Nat.le_refl _) hi
  obtain ⟨os, hos, hcs, hds⟩ := id hs
  have hTs : s.TypeIs (.ref sl) "slice" := ⟨os, hos, hcs⟩
  unfold getItem
  try with_reducible refine wpAny_holding ?_
  first | refine wpAny_bind (wpAny_pure ?_) | skip
  refine wpAny_bind (wpAny_sequenceKey ht.typeIs (by decide) ?_)
  refine wpAny_bind (wpAny_callSpecial?_slot (name := Str.ofString "__getitem__") ht.typeIs PyProof.Rows.slot_tuple_getitem
    (wpAny_call_entry PyProof.Rows.slot_tuple_getitem ht.typeIs entry_tuple_getitem ?_ (args_tuple_getitem _ _)))
  show wpAny _ _ (Builtin.Tuple.tupleItemsOf (.ref t) >>= _) _ _ s
  refine wpAny_bind (tupleItemsOf_ ht ?_)
  refine wpAny_bind (wpAny_typeOf hTs ?_)
  rw [if_pos (by decide)]
  refine wpAny_bind (sliceApplied_gen hs pl pu ?_)
  have hno : ¬ ((((sIx items.size 0 lo : Nat) : Int) == 0 && (1 : Int) == 1 && (sIx items.size items.size hi - sIx items.size 0 lo) == items.size) = true) := by
    intro q
    rw [Bool.and_eq_true, Bool.and_eq_true] at q
    have q1 : ((sIx items.size 0 lo : Nat) : Int) = 0 := eq_of_beq q.1.1
    have q2 : sIx items.size items.size hi - sIx items.size 0 lo = items.size := eq_of_beq q.2
    exact hw ⟨by omega, by omega⟩
  show wpAny _ _ (if (((sIx items.size 0 lo : Nat) : Int) == 0 && (1 : Int) == 1 && (sIx items.size items.size hi - sIx items.size 0 lo) == items.size) = true then _ else _) _ _ s
  rw [if_neg hno, pick_gen]
  first
    | exact wpAny_bind (m := Builtin.Tuple.tupleExact _) (wpAny_newObj_type (wpAny_pure ⟨_, rfl, wpAny_pure h⟩) htake)
    | exact wpAny_bind (m := Builtin.Tuple.tupleExact _) (wpAny_newObj_type (wpAny_bind (wpAny_pure (wpAny_pure ⟨_, rfl, wpAny_pure h⟩))) htake)
    | exact wpAny_bind (wpAny_bind (m := Builtin.Tuple.tupleExact _) (wpAny_newObj_type (wpAny_pure (wpAny_pure ⟨_, rfl, wpAny_pure h⟩)) htake))
    | exact wpAny_bind (wpAny_bind (m := Builtin.Tuple.tupleExact _) (wpAny_newObj_type (wpAny_pure ⟨_, rfl, wpAny_pure h⟩) htake))
end
end HT

namespace L2
open PySem PySem.Spec PyProof.Rows

abbrev TO := St → Hp → (Option Int → Hp → Prop) → Prop
noncomputable def PO (X : Cx) (e : Option Expr) (t : TO) : Prop :=
  ∀ (pins : List (Addr × Obj)) (s : Shared) (σ : St) (H : Hp) (Q : Option Int → Hp → Prop), Inv X pins σ H s → t σ H Q →
    wpAny (model X.prog X.w) X.A (evalPart e X.env) (fun u s' => ∃ o H', Inv X pins σ H' s' ∧ IsPart u o ∧ Q o H') X.xe s
noncomputable def tNoPart : TO := fun _ H Q => Q none H
noncomputable def tPart (t : TE) : TO := fun σ H Q => t σ H fun x H1 => ∃ i, x = .int i ∧ Q (some i) H1


section
variable {X : Cx} {e : Expr} {te : TE} {lo hi : Option Expr} {tl th : TO} {pos p2 : Pos}

theorem po_none : PO X none tNoPart := by
  intro pins s σ H Q I h
  rw [evalPart_none]
  exact wpAny_pure ⟨none, H, I, .none, h⟩
theorem po_some (h : PE X e te) : PO X (some e) (tPart te) := by
  intro pins s σ H Q I hw
  rw [evalPart_some]
  refine thn (h pins s σ H _ I hw) fun u s1 ⟨x, H1, I1, r1, q1⟩ => ?_
  obtain ⟨i, rfl, q⟩ := q1
  obtain ⟨t, rfl⟩ := r1
  exact ⟨some i, H1, I1, .int i t, q⟩

noncomputable def SlR (X : Cx) (r : V → Option Int → Option Int → Hp → VK → Prop) : Prop :=
  ∀ (pins : List (Addr × Obj)) (s : Shared) (σ : St) (H : Hp) (x : V) (v vl vu : Value) (lo hi : Option Int) (sl : Addr) (Q : VK), Inv X pins σ H s → RelV x v → s.heap.IsSliceOf sl vl vu .none → IsPart vl lo → IsPart vu hi → r x lo hi H Q →
    ∃ T id, typeLookup (.type T) "__getitem__" = pure (some (.builtin id)) ∧ s.TypeIs v T ∧ wpAny (model X.prog X.w) X.A (getItem v (.ref sl)) (EP X pins σ Q) X.xe s
noncomputable def tSl (r : V → Option Int → Option Int → Hp → VK → Prop) (te : TE) (tl th : TO) : TE := fun σ H Q => te σ H fun x H1 => tl σ H1 fun l H2 => th σ H2 fun u H3 => r x l u H3 Q
theorem pe_slice {r : V → Option Int → Option Int → Hp → VK → Prop} (hr : SlR X r) (he : PE X e te) (hl : PO X lo tl) (hu : PO X hi th) : PE X (.Subscript e (.Slice lo hi none p2) pos) (tSl r te tl th) := by
  intro pins s σ H Q I h
  refine Subscript_ (thn (he pins s σ H _ I h) fun v s1 ⟨x, H1, I1, r1, q1⟩ => ?_)
  refine wpAny_Slice (thn (hl pins s1 σ H1 _ I1 q1) fun vl s2 ⟨l, H2, I2, pl, q2⟩ => thn (hu pins s2 σ H2 _ I2 q2) fun vu s3 ⟨u, H3, I3, pu, q3⟩ => ?_)
  rw [evalPart_none]
  refine wpAny_pure ?_
  have I4 : Inv X pins σ H3 { s3 with heap := s3.heap.push { cls := .type "slice", data := .fields #[vl, vu, .none] } } := I3.kept (t' := s3.toks) fun b ob q => Heap.get?_push_of_some _ q
  obtain ⟨T, id, hT, ht, hg⟩ := hr pins { s3 with heap := s3.heap.push { cls := .type "slice", data := .fields #[vl, vu, .none] } } σ H3 x v vl vu l u s3.heap.objs.size Q I4 r1 (Heap.IsSliceOf.new ..) pl pu q3
  show wpAny (model X.prog X.w) X.A (subscriptTail e (.Slice lo hi none p2) v (.ref s3.heap.objs.size)) (EP X pins σ Q) X.xe { s3 with heap := s3.heap.push { cls := .type "slice", data := .fields #[vl, vu, .none] } }
  exact tail_any (ops := [.ref s3.heap.objs.size, v]) ht hT hg (by with_unfolding_all rfl)

noncomputable def cutV (xs : List V) (lo hi : Option Int) : List V := (xs.drop (HT.sIx xs.length 0 lo)).take (HT.sIx xs.length xs.length hi - HT.sIx xs.length 0 lo)
theorem cutV_length (xs : List V) (lo hi : Option Int) : (cutV xs lo hi).length ≤ xs.length := by
  unfold cutV
  rw [List.length_take, List.length_drop]
  omega
noncomputable def rSlT (K : PySem.W.Frag) : V → Option Int → Option Int → Hp → VK → Prop := fun x lo hi H Q => ∃ a xs, x = .ref a ∧ SqT K H a xs ∧
  ¬ (HT.sIx xs.length 0 lo = 0 ∧ HT.sIx xs.length xs.length hi = xs.length) ∧ ∀ p, H p = none → Q (.ref p) (upd H p (.tup (cutV xs lo hi)))
theorem sl_tup : SlR X (rSlT X.K) := by
  intro pins s σ H x v vl vu lo hi sl Q I rx hs pl pu h
  obtain ⟨a, xs, rfl, hx, hw, q⟩ := h
  cases rx
  obtain ⟨its, r, ht, hz⟩ := I.tuple hx
  have hlen : its.toArray.size = xs.length := by rw [List.size_toArray]; exact r.length.symm
  refine ⟨"tuple", _, PyProof.Rows.slot_tuple_getitem.lookup, ht.typeIs, ?_⟩
  refine HT.getItem_tuple_cut ht hs pl pu (by rw [hlen]; exact hw) ?_ (by rw [hlen]; exact hz)
  rw [hlen]
  refine ⟨.ref s.heap.objs.size, _, I.laid (t' := s.toks) (o := .tup (cutV xs lo hi)) (fun b ob q => Heap.get?_push_of_some _ q) (Nat.le_refl _) ?_, rfl, q _ (I.hok.fresh (Nat.le_refl _))⟩
  exact ⟨Nat.le_trans (cutV_length xs lo hi) hz, _, (r.drop (HT.sIx xs.length 0 lo)).take (HT.sIx xs.length xs.length hi - HT.sIx xs.length 0 lo), IsTup.new _ _⟩

noncomputable def rCatT (K : PySem.W.Frag) : R2 := fun x y H Q => ∃ a b xs ys, x = .ref a ∧ y = .ref b ∧ SqT K H a xs ∧ SqT K H b ys ∧ xs ≠ [] ∧ xs.length + ys.length ≤ sizeLine ∧
  (ys = [] → Q (.ref a) H) ∧ (ys ≠ [] → ∀ p, H p = none → Q (.ref p) (upd H p (.tup (xs ++ ys))))
theorem Vals.nil_iff {xs : List V} {us : List Value} (r : Vals xs us) : us = [] ↔ xs = [] := by
  cases r with
  | nil => simp
  | cons _ _ => simp
theorem op_catT : OpR X (binaryOp .Add) (rCatT X.K) := by
  intro pins s σ H x y v u Q I rx ry h
  obtain ⟨a, b, xs, ys, rfl, rfl, ha, hb, hx, hz, q1, q2⟩ := h
  cases rx
  cases ry
  obtain ⟨its, r1, p1, _⟩ := I.tuple ha
  obtain ⟨its2, r2, p2, _⟩ := I.tuple hb
  refine HT.cat_tup p1 p2 (fun z => hx (r1.nil_iff.mp z)) (fun z => ⟨.ref a, H, I, rfl, q1 (r2.nil_iff.mp z)⟩) (fun z => ?_) (by rw [← r1.length, ← r2.length]; exact hz)
  refine ⟨.ref s.heap.objs.size, _, I.laid (t' := s.toks) (o := .tup (xs ++ ys)) (fun b ob q => Heap.get?_push_of_some _ q) (Nat.le_refl _) ?_, rfl, q2 (fun w => z (r2.nil_iff.mpr w)) _ (I.hok.fresh (Nat.le_refl _))⟩
  exact ⟨by rw [List.length_append]; exact hz, _, r1.append r2, IsTup.new _ _⟩
end
end L2

namespace L2
open PySem PySem.Spec PyProof.Rows

noncomputable def ixN (n : Nat) (i : Int) : Option Nat := if 0 ≤ i then (if i < n then some i.toNat else none) else if -(n : Int) ≤ i then some (i + n).toNat else none
noncomputable def atI {α : Type} (xs : List α) (i : Int) : Option α := (ixN xs.length i).bind fun j => xs[j]?
theorem ixN_seq {n : Nat} {i : Int} {j : Nat} (h : ixN n i = some j) : seqIndex? i n = some j ∧ j < n ∧ -(n : Int) ≤ i ∧ i < n := by
  unfold ixN at h
  by_cases h0 : 0 ≤ i
  · rw [if_pos h0] at h
    by_cases h1 : i < n
    · rw [if_pos h1] at h
      have e : i.toNat = j := Option.some.inj h
      exact ⟨by rw [seqIndex_of h0 h1, e], by omega, by omega, h1⟩
    · rw [if_neg h1] at h; cases h
  · rw [if_neg h0] at h
    by_cases h1 : -(n : Int) ≤ i
    · rw [if_pos h1] at h
      have e : (i + n).toNat = j := Option.some.inj h
      exact ⟨by rw [seqIndex_neg (by omega) h1, e], by omega, h1, by omega⟩
    · rw [if_neg h1] at h; cases h
theorem atI_get {α : Type} {xs : List α} {i : Int} {v : α} (h : atI xs i = some v) : ∃ j, seqIndex? i xs.length = some j ∧ xs[j]? = some v ∧ j < xs.length ∧ -(xs.length : Int) ≤ i ∧ i < xs.length := by
  unfold atI at h
  cases e : ixN xs.length i with
  | none => rw [e] at h; cases h
  | some j =>
    rw [e] at h
    obtain ⟨h1, h2, h3, h4⟩ := ixN_seq e
    exact ⟨j, h1, h, h2, h3, h4⟩
theorem atI_nat {α : Type} {xs : List α} {j : Nat} {v : α} (h : xs[j]? = some v) : atI xs (j : Int) = some v := by
  have hj : j < xs.length := (List.getElem?_eq_some_iff.mp h).1
  have e : ixN xs.length (j : Int) = some j := by
    unfold ixN
    rw [if_pos (by omega), if_pos (by omega)]; simp
  unfold atI; rw [e]; exact h

noncomputable def PlainIx (b : Expr) : Prop := ∀ o i, subscripted b false o i = operate [o, i] (getItem o i)
noncomputable def IxR (X : Cx) (r : R2) : Prop :=
  ∀ (value slice : Expr) (pins : List (Addr × Obj)) (s : Shared) (σ : St) (H : Hp) (x y : V) (v u : Value) (Q : VK), Inv X pins σ H s → RelV x v → RelV y u → r x y H Q →
    subscripted slice false v u = operate [v, u] (getItem v u) → wpAny (model X.prog X.w) X.A (subscriptTail value slice v u) (EP X pins σ Q) X.xe s
noncomputable def MtR (X : Cx) (id : String) (r : V → List V → Hp → VK → Prop) : Prop :=
  ∀ (pins : List (Addr × Obj)) (s : Shared) (σ : St) (H : Hp) (x : V) (xs : List V) (v : Value) (us : List Value) (Q : VK), Inv X pins σ H s → RelV x v → Vals xs us → r x xs H Q →
    wpAny (model X.prog X.w) X.A (call (.builtin id) (v :: us)) (EP X pins σ Q) X.xe s
section
variable {X : Cx} {a b : Expr} {ta tb : TE} {pos : Pos}
theorem pe_ix {r : R2} (hr : IxR X r) (ha : PE X a ta) (hb : PE X b tb) (hs : PlainIx b) : PE X (.Subscript a b pos) (tOp r ta tb) := by
  intro pins s σ H Q I h
  exact Subscript_ (binT ha hb I h fun v u s2 x y H2 I2 rx ry q => hr a b pins s2 σ H2 x y v u Q I2 rx ry q (hs _ _))

noncomputable def rIxL (K : PySem.W.Frag) : R2 := fun x y H Q => ∃ p xs i v, x = .ref p ∧ y = .int i ∧ SqL K H p xs ∧ atI xs i = some v ∧ Q v H
noncomputable def rIxT (K : PySem.W.Frag) : R2 := fun x y H Q => ∃ p xs i v, x = .ref p ∧ y = .int i ∧ SqT K H p xs ∧ atI xs i = some v ∧ Q v H
noncomputable def rIxS : R2 := fun x y H Q => ∃ z i c, x = .str z ∧ y = .int i ∧ z.length ≤ sizeLine ∧ atI z.cps.toList i = some c ∧ Q (.str ⟨#[c]⟩) H
theorem ix_list : IxR X (rIxL X.K) := by
  intro value slice pins s σ H x y v u Q I rx ry h hs
  obtain ⟨p, xs, i, z, rfl, rfl, hq, he, q⟩ := h
  cases rx
  obtain ⟨t, rfl⟩ := ry
  obtain ⟨its, r, pl, hz⟩ := I.list hq
  obtain ⟨j, h1, h2, h3, h4, h5⟩ := atI_get he
  obtain ⟨w, ew, rw'⟩ := r.get h2
  have hl := r.length
  have hn := line63
  have fin : EP X pins σ Q w s := ⟨z, H, I, rw', q⟩
  by_cases h0 : 0 ≤ i
  · have hj : i.toNat = j := by
      rw [seqIndex_of h0 h5] at h1
      exact Option.some.inj h1
    exact item_listR pl.isList h0 (by omega) (by rw [hj]; simpa using ew) fin hs
  · have hj : (i + (its.toArray.size : Int)).toNat = j := by
      rw [seqIndex_neg (by omega) h4] at h1
      rw [List.size_toArray, ← hl]
      exact Option.some.inj h1
    exact subscriptTail_builtinR (x := w) pl.isList.typeIs slot_list_getitem.lookup
      (wpAny_getItem_list_neg (Q := fun r s' => r = w ∧ EP X pins σ Q r s') pl.isList (by omega) (by rw [List.size_toArray] <;> omega) (by omega) (by rw [hj]; simpa using ew) ⟨rfl, fin⟩) hs
theorem ix_tup : IxR X (rIxT X.K) := by
  intro value slice pins s σ H x y v u Q I rx ry h hs
  obtain ⟨p, xs, i, z, rfl, rfl, hq, he, q⟩ := h
  cases rx
  obtain ⟨t, rfl⟩ := ry
  obtain ⟨its, r, pl, hz⟩ := I.tuple hq
  obtain ⟨j, h1, h2, h3, h4, h5⟩ := atI_get he
  obtain ⟨w, ew, rw'⟩ := r.get h2
  have hl := r.length
  have hn := line63
  have fin : EP X pins σ Q w s := ⟨z, H, I, rw', q⟩
  exact subscriptTail_builtinR (x := w) pl.typeIs slot_tuple_getitem.lookup
    (getItem_tuple (j := j) (Q := fun r s' => r = w ∧ EP X pins σ Q r s') pl (by omega) (by omega) (by rw [List.size_toArray, ← hl]; exact h1) (by simpa using ew) ⟨rfl, fin⟩) hs
theorem ix_str : IxR X rIxS := by
  intro value slice pins s σ H x y v u Q I rx ry h hs
  obtain ⟨z, i, c, rfl, rfl, hz, he, q⟩ := h
  obtain ⟨t, rfl⟩ := rx
  obtain ⟨t', rfl⟩ := ry
  obtain ⟨j, h1, h2, h3, h4, h5⟩ := atI_get he
  have hl : z.cps.toList.length = z.length := by simp [Str.length]
  rw [hl] at h1 h4 h5
  have hn := line63
  exact tail_any (typeIs_str s z t) slot_str_getitem.lookup (getItem_str (c := c) (by
    have e1 : decide (i < -(2 ^ 63 : Int)) = false := decide_eq_false (by omega)
    have e2 : decide (i ≥ 2 ^ 63) = false := decide_eq_false (by omega)
    rw [e1, e2, Bool.or_false]) (by rw [h1]; simpa using h2) ⟨.str ⟨#[c]⟩, H, I.tok _, ⟨_, rfl⟩, q⟩) hs

theorem mapSeq_set (its : List Value) (n j : Nat) (u : Value) : Obj.mapSeq (·.setIfInBounds j u) { cls := .type "list", data := .seq its.toArray n } = { cls := .type "list", data := .seq (its.set j u).toArray n } := by
  simp [Obj.mapSeq]
theorem Inv.lst {pins : List (Addr × Obj)} {σ : St} {H : Hp} {s : Shared} {p : Addr} {xs : List V} (I : Inv X pins σ H s) (h : H p = some (.lst xs)) :
    ∃ (its : List Value) (n : Nat), Vals xs its ∧ s.heap.get? p = some { cls := .type "list", data := .seq its.toArray n } ∧ xs.length ≤ sizeLine := by
  obtain ⟨z, its, n, r, e⟩ := I.hok p _ h
  exact ⟨its, n, r, e, z⟩
theorem Inv.lstUpd {pins : List (Addr × Obj)} {σ : St} {H : Hp} {s : Shared} {p : Addr} {xs ys : List V} {its its' : List Value} {n n' : Nat} {f : Obj → Obj} (I : Inv X pins σ H s) (h : H p = some (.lst xs))
    (ho : s.heap.get? p = some { cls := .type "list", data := .seq its.toArray n }) (hf : f { cls := .type "list", data := .seq its.toArray n } = { cls := .type "list", data := .seq its'.toArray n' }) (r : Vals ys its') (hz : ys.length ≤ sizeLine) (t : Nat) :
    Inv X pins σ (upd H p (.lst ys)) { s with heap := s.heap.update p f, toks := t } := by
  have e : (s.heap.update p f).get? p = some { cls := .type "list", data := .seq its'.toArray n' } := by
    rw [Heap.get?_update_self f ho (by rw [hf] <;> rfl), hf]
  refine I.write (x := p) (e := p) (by rw [h]; trivial) (.inl rfl) (fun b u hb q => (Heap.get?_update_other _ _ (Ne.symm hb)).trans q) ⟨_, e⟩ ?_
  exact ⟨hz, its', n', r, e⟩
noncomputable def rSetL : V → V → V → Hp → (Hp → Prop) → Prop := fun o i v H Q => ∃ p xs k j, o = .ref p ∧ i = .int k ∧ H p = some (.lst xs) ∧ ixN xs.length k = some j ∧ Q (upd H p (.lst (xs.set j v)))
theorem set_list : PSet X rSetL := by
  intro pins s σ H o i v ov iv u Q I ro ri rv h
  obtain ⟨p, xs, k, j, rfl, rfl, hp, hj, q⟩ := h
  cases ro
  obtain ⟨t, rfl⟩ := ri
  obtain ⟨its, n, r, ho, hz⟩ := I.lst hp
  obtain ⟨h1, h2, h3, h4⟩ := ixN_seq hj
  have hl := r.length
  have hn := line63
  have I' : Inv X pins σ (upd H p (.lst (xs.set j v))) { s with heap := s.heap.update p (Obj.mapSeq (·.setIfInBounds j u)) } :=
    I.lstUpd hp ho (mapSeq_set its n j u) (r.set rv j) (by rw [List.length_set]; exact hz) s.toks
  by_cases h0 : 0 ≤ k
  · have hk : k.toNat = j := by
      rw [seqIndex_of h0 h4] at h1
      exact Option.some.inj h1
    exact PySem.W.ki_setAt ho h0 (by omega) (by rw [List.size_toArray, ← hl]; exact h4) (by rw [hk]; exact ⟨_, I', q⟩)
  · have hk : (k + (its.toArray.size : Int)).toNat = j := by
      rw [seqIndex_neg (by omega) h3] at h1
      rw [List.size_toArray, ← hl]
      exact Option.some.inj h1
    exact PySem.W.ki_setBack ho (by omega) (by rw [List.size_toArray, ← hl]; exact h3) (by omega) (by rw [hk]; exact ⟨_, I', q⟩)

theorem sl_bd (i : Int) (n : Nat) : max 0 (min (if i < 0 then i + (n : Int) else i) (n : Int)) = (((if i < 0 then (i + (n : Int)).toNat else min i.toNat n) : Nat) : Int) := by
  by_cases h : i < 0
  · rw [if_pos h, if_pos h, Int.min_eq_left (by omega)]
    omega
  · obtain ⟨k, rfl⟩ := Int.eq_ofNat_of_zero_le (Int.not_lt.mp h)
    rw [if_neg h, if_neg h, Int.toNat_natCast]
    omega
theorem slice_bounds (lo hi : Option Int) (n : Nat) : (sliceBounds lo hi none n).1 = ((HT.sIx n 0 lo : Nat) : Int) ∧ (sliceBounds lo hi none n).2.1 = ((HT.sIx n n hi : Nat) : Int) ∧ (sliceBounds lo hi none n).2.2 = 1 := by
  refine ⟨?_, ?_, rfl⟩
  · cases lo with
    | none => simp [sliceBounds, HT.sIx]
    | some i =>
      simp only [sliceBounds, HT.sIx, Option.getD_none, show (1 : Int) > 0 by decide, if_true]
      exact sl_bd i n
  · cases hi with
    | none => simp [sliceBounds, HT.sIx]
    | some i =>
      simp only [sliceBounds, HT.sIx, Option.getD_none, show (1 : Int) > 0 by decide, if_true]
      exact sl_bd i n
theorem slicePick_cut (its : List Value) (lo hi : Option Int) : slicePick its.toArray lo hi none = ((its.drop (HT.sIx its.length 0 lo)).take (HT.sIx its.length its.length hi - HT.sIx its.length 0 lo)).toArray := by
  obtain ⟨h1, h2, h3⟩ := slice_bounds lo hi its.toArray.size
  unfold slicePick
  rw [h1, h2, h3]
  simp only [sliceRange_one, pick_run, List.size_toArray] <;> rfl
noncomputable def rSlL (K : PySem.W.Frag) : V → Option Int → Option Int → Hp → VK → Prop := fun x lo hi H Q => ∃ a xs, x = .ref a ∧ SqL K H a xs ∧ ∀ p, H p = none → Q (.ref p) (upd H p (.lst (cutV xs lo hi)))
theorem sl_list : SlR X (rSlL X.K) := by
  intro pins s σ H x v vl vu lo hi sl Q I rx hs pl pu h
  obtain ⟨a, xs, rfl, hx, q⟩ := h
  cases rx
  obtain ⟨its, r, ht, hz⟩ := I.list hx
  have hlen := r.length
  refine ⟨"list", _, slot_list_getitem.lookup, ht.isList.typeIs, ?_⟩
  refine wpAny_getItem_list_slice ht.isList hs pl pu .none (by simp) ?_ (by rw [List.size_toArray] <;> omega)
  rw [slicePick_cut, ← hlen]
  refine ⟨.ref s.heap.objs.size, _, I.laid (t' := s.toks) (o := .lst (cutV xs lo hi)) (fun b ob q => Heap.get?_push_of_some _ q) (Nat.le_refl _) ?_, rfl, q _ (I.hok.fresh (Nat.le_refl _))⟩
  exact ⟨Nat.le_trans (cutV_length xs lo hi) hz, _, 0, (r.drop (HT.sIx xs.length 0 lo)).take (HT.sIx xs.length xs.length hi - HT.sIx xs.length 0 lo), Heap.get?_push_size _ rfl⟩

noncomputable def flatV : V → Bool
  | .non => true
  | .bl _ => true
  | .int _ => true
  | .str _ => true
  | _ => false
noncomputable def eqV : V → V → Bool
  | .non, .non => true
  | .bl a, .bl b => a == b
  | .bl a, .int b => (if a then 1 else 0) == b
  | .int a, .bl b => a == (if b then 1 else 0)
  | .int a, .int b => a == b
  | .str a, .str b => a == b
  | _, _ => false
theorem eqAt_V {A : Around} {s : Shared} {y x : V} {u v : Value} (ry : RelV y u) (rx : RelV x v) (fy : flatV y = true) (fx : flatV x = true) : SeqAt.EqAt A s u v (eqV y x) := by
  cases y with
  | non =>
    cases ry
    cases x with
    | non => cases rx; exact SeqAt.EqAt.same _
    | bl b => cases rx; exact SeqAt.EqAt.none_bool b
    | int b => obtain ⟨t, rfl⟩ := rx; exact SeqAt.EqAt.none_int b t
    | str b => obtain ⟨t, rfl⟩ := rx; exact SeqAt.EqAt.none_str b t
    | _ => exact absurd (show false = true from fx) Bool.false_ne_true
  | bl a =>
    cases ry
    cases x with
    | non => cases rx; exact SeqAt.EqAt.bool_none a
    | bl b => cases rx; exact SeqAt.EqAt.bool_bool a b
    | int b => obtain ⟨t, rfl⟩ := rx; exact SeqAt.EqAt.bool_int a b t
    | str b => obtain ⟨t, rfl⟩ := rx; exact SeqAt.EqAt.bool_str a b t
    | _ => exact absurd (show false = true from fx) Bool.false_ne_true
  | int a =>
    obtain ⟨t', rfl⟩ := ry
    cases x with
    | non => cases rx; exact SeqAt.EqAt.int_none a t'
    | bl b => cases rx; exact SeqAt.EqAt.int_bool a t' b
    | int b => obtain ⟨t, rfl⟩ := rx; exact SeqAt.EqAt.int_int a t' b t
    | str b => obtain ⟨t, rfl⟩ := rx; exact SeqAt.EqAt.int_str a t' b t
    | _ => exact absurd (show false = true from fx) Bool.false_ne_true
  | str a =>
    obtain ⟨t', rfl⟩ := ry
    cases x with
    | non => cases rx; exact SeqAt.EqAt.str_none a t'
    | bl b => cases rx; exact SeqAt.EqAt.str_bool a t' b
    | int b => obtain ⟨t, rfl⟩ := rx; exact SeqAt.EqAt.str_int a t' b t
    | str b => obtain ⟨t, rfl⟩ := rx; exact SeqAt.EqAt.str_str a t' b t
    | _ => exact absurd (show false = true from fx) Bool.false_ne_true
  | _ => exact absurd (show false = true from fy) Bool.false_ne_true
noncomputable def eqU (x : V) (u : Value) : Bool := match u with
  | .none => eqV .non x
  | .bool b => eqV (.bl b) x
  | .int i _ => eqV (.int i) x
  | .str z _ => eqV (.str z) x
  | _ => false
theorem eqU_of {x y : V} {u : Value} (r : RelV y u) (f : flatV y = true) : eqU x u = eqV y x := by
  cases y with
  | non => cases r; rfl
  | bl b => cases r; rfl
  | int i => obtain ⟨t, rfl⟩ := r; rfl
  | str z => obtain ⟨t, rfl⟩ := r; rfl
  | _ => exact absurd (show false = true from f) Bool.false_ne_true
theorem any_eqU {x : V} : ∀ {xs : List V} {us : List Value}, Vals xs us → xs.all flatV = true → us.any (eqU x) = xs.any fun y => eqV y x
  | _, _, .nil, _ => rfl
  | y :: xs, u :: us, .cons r t, f => by
    rw [List.all_cons, Bool.and_eq_true] at f
    rw [List.any_cons, List.any_cons, eqU_of r f.1, any_eqU t f.2]
theorem mem_eqAt {A : Around} {s : Shared} {x : V} {v : Value} (rx : RelV x v) (fx : flatV x = true) : ∀ {xs : List V} {us : List Value}, Vals xs us → xs.all flatV = true → ∀ u ∈ us, SeqAt.EqAt A s u v (eqU x u)
  | _, _, .nil, _ => fun u hu => by cases hu
  | y :: xs, u :: us, .cons r t, f => fun u' hu => by
    rw [List.all_cons, Bool.and_eq_true] at f
    rcases List.mem_cons.mp hu with rfl | hu
    · rw [eqU_of r f.1]; exact eqAt_V r rx f.1 fx
    · exact mem_eqAt rx fx t f.2 u' hu
noncomputable def inV (x : V) (xs : List V) : Bool := xs.any fun y => eqV y x
noncomputable def rIn (K : PySem.W.Frag) (neg : Bool) : R2 := fun x y H Q => ∃ p xs, y = .ref p ∧ (SqL K H p xs ∨ SqT K H p xs) ∧ flatV x = true ∧ xs.all flatV = true ∧ Q (.bl (if neg then !inV x xs else inV x xs)) H
theorem op_in_seq : OpR X (compareOp .In) (rIn X.K false) := by
  intro pins s σ H x y v u Q I rx ry h
  obtain ⟨p, xs, rfl, hq, fx, fs, q⟩ := h
  cases ry
  rcases hq with hq | hq
  · obtain ⟨its, r, pl, hz⟩ := I.list hq
    refine SeqAt.in_listAt (eqU x) pl.isList (fun w hw => mem_eqAt rx fx r fs w (by simpa using hw)) ⟨.bl _, H, I, rfl, ?_⟩
    rw [show its.toArray.any (eqU x) = its.any (eqU x) by simp, any_eqU r fs]
    exact q
  · obtain ⟨its, r, pl, hz⟩ := I.tuple hq
    refine SeqAt.in_tupleAt (eqU x) pl (fun w hw => mem_eqAt rx fx r fs w (by simpa using hw)) ⟨.bl _, H, I, rfl, ?_⟩
    rw [show its.toArray.any (eqU x) = its.any (eqU x) by simp, any_eqU r fs]
    exact q

theorem call_len_seq : CallR X (.builtin "len") (fun xs H Q => ∃ p ys, xs = [.ref p] ∧ (SqL X.K H p ys ∨ SqT X.K H p ys) ∧ Q (.int ys.length) H) := by
  intro pins s σ H xs us Q I r h
  obtain ⟨p, ys, rfl, hq, q⟩ := h
  obtain ⟨u, rfl, rx⟩ := vals1 r
  cases rx
  have hn := line63
  rcases hq with hq | hq
  · obtain ⟨its, r', pl, hz⟩ := I.list hq
    have hlen := r'.length
    exact Calls.call_len_list pl.isList (by simp only [List.size_toArray] <;> omega) ⟨.int ys.length, H, I.tok _, ⟨s.toks + 1, by rw [List.size_toArray, hlen]⟩, q⟩
  · obtain ⟨its, r', pl, hz⟩ := I.tuple hq
    have hlen := r'.length
    exact len_tuple pl (by simp only [List.size_toArray] <;> omega) ⟨.int ys.length, H, I.tok _, ⟨s.toks + 1, by rw [List.size_toArray, hlen]⟩, q⟩
theorem call_len_str : CallR X (.builtin "len") (fun xs H Q => ∃ z, xs = [.str z] ∧ z.length ≤ sizeLine ∧ Q (.int z.length) H) := by
  intro pins s σ H xs us Q I r h
  obtain ⟨z, rfl, hz, q⟩ := h
  obtain ⟨u, rfl, t, rfl⟩ := vals1 r
  have hn := line63
  exact len_str (by omega) ⟨.int z.length, H, I.tok _, ⟨_, rfl⟩, q⟩
theorem call_list_of : CallR X (.type "list") (fun xs H Q => ∃ p ys, xs = [.ref p] ∧ (SqL X.K H p ys ∨ SqT X.K H p ys) ∧ ∀ l, H l = none → Q (.ref l) (upd H l (.lst ys))) := by
  intro pins s σ H xs us Q I r h
  obtain ⟨p, ys, rfl, hq, q⟩ := h
  obtain ⟨u, rfl, rx⟩ := vals1 r
  cases rx
  have fin : ∀ (its : List Value), Vals ys its → ys.length ≤ sizeLine → ∀ (h' : Heap) (c' : Nat), (∀ b o', s.heap.get? b = some o' → h'.get? b = some o') →
      h'.get? s.heap.objs.size = some { cls := .type "list", dict := none, data := .seq its.toArray c', slots := #[] } → EP X pins σ Q (.ref s.heap.objs.size) { s with heap := h' } := fun its r' hz h' c' kp e =>
    ⟨.ref s.heap.objs.size, _, I.laid (t' := s.toks) kp (Nat.le_refl _) (show ObjOk X.prog X.w _ h' _ (.lst ys) from ⟨hz, its, c', r', e⟩), rfl, q _ (I.hok.fresh (Nat.le_refl _))⟩
  rcases hq with hq | hq
  · obtain ⟨its, r', pl, hz⟩ := I.list hq
    have hlen := r'.length
    obtain ⟨o, ho, hc, n, hd⟩ := pl.isList
    exact call_list_seq p (.inl rfl) ho hc hd (fun h' c' kp e => fin its r' hz h' c' kp e) (by simp only [List.size_toArray] <;> omega)
  · obtain ⟨its, r', pl, hz⟩ := I.tuple hq
    have hlen := r'.length
    obtain ⟨o, ho, hc, n, hd⟩ := pl
    exact call_list_seq p (.inr rfl) ho hc hd (fun h' c' kp e => fin its r' hz h' c' kp e) (by simp only [List.size_toArray] <;> omega)
theorem call_tuple_of : CallR X (.type "tuple") (fun xs H Q => ∃ p ys, xs = [.ref p] ∧ ((SqL X.K H p ys ∧ ∀ l, H l = none → Q (.ref l) (upd H l (.tup ys))) ∨ (SqT X.K H p ys ∧ Q (.ref p) H))) := by
  intro pins s σ H xs us Q I r h
  obtain ⟨p, ys, rfl, h⟩ := h
  obtain ⟨u, rfl, rx⟩ := vals1 r
  cases rx
  rcases h with ⟨hq, q⟩ | ⟨hq, q⟩
  · obtain ⟨its, r', pl, hz⟩ := I.list hq
    have hlen := r'.length
    refine call_tuple_list pl.isList (fun h' kp => ?_) (by simp only [List.size_toArray] <;> omega)
    have I1 : Inv X pins σ H { s with heap := h' } := I.kept (t' := s.toks) kp
    have I2 : Inv X pins σ (upd H h'.objs.size (.tup ys)) { s with heap := h'.push { cls := .type "tuple", data := .seq its.toArray } } :=
      I1.laid (t' := s.toks) (fun b o e => Heap.get?_push_of_some _ e) (Nat.le_refl _) (show ObjOk X.prog X.w _ _ _ (.tup ys) from ⟨hz, its, r', IsTup.new _ _⟩)
    exact ⟨.ref h'.objs.size, _, I2, rfl, q _ (I1.hok.fresh (Nat.le_refl _))⟩
  · obtain ⟨its, r', pl, hz⟩ := I.tuple hq
    exact call_tuple_same pl ⟨.ref p, H, I, rfl, q⟩

noncomputable def tyV (K : PySem.W.Frag) (T : String) (x : V) (H : Hp) : Prop := match x with
  | .str _ => T = "str"
  | .int _ => T = "int"
  | .ref p => (T = "list" ∧ ∃ xs, SqL K H p xs) ∨ (T = "tuple" ∧ ∃ o, K.lookup p = some o ∧ o.cls = .type "tuple" ∧ o.dict = none) ∨
      (T = "dict" ∧ ((∃ kvs, H p = some (.dK kvs)) ∨ ∃ kvs, H p = some (.dT kvs))) ∨ (T = "set" ∧ ∃ S n, H p = some (.set S n))
  | _ => False
theorem tyV_is {pins : List (Addr × Obj)} {σ : St} {H : Hp} {s : Shared} {T : String} {x : V} {v : Value} (I : Inv X pins σ H s) (r : RelV x v) (ty : tyV X.K T x H) :
    s.TypeIs v T ∧ ∀ a, v = .ref a → ∃ ob, s.heap.get? a = some ob ∧ ob.dict = none := by
  cases x with
  | str z =>
    obtain ⟨t, rfl⟩ := r
    cases (show T = "str" from ty)
    exact ⟨typeIs_str s z t, fun _ e => nomatch e⟩
  | int i =>
    obtain ⟨t, rfl⟩ := r
    cases (show T = "int" from ty)
    exact ⟨typeIs_int s i t, fun _ e => nomatch e⟩
  | ref p =>
    cases r
    rcases ty with ⟨rfl, xs, hq⟩ | ⟨rfl, o, hk, hc, hd⟩ | ⟨rfl, hk⟩ | ⟨rfl, S, n, hk⟩
    · obtain ⟨its, _, pl, _⟩ := I.list hq
      refine ⟨pl.isList.typeIs, fun a e => ?_⟩
      cases e
      obtain ⟨o, n, e, c, hd, _⟩ := pl
      exact ⟨o, e, hd⟩
    · refine ⟨⟨o, I.kIn p o hk, hc⟩, fun a e => ?_⟩
      cases e
      exact ⟨o, I.kIn _ o hk, hd⟩
    · have z : ∃ o, s.heap.get? p = some o ∧ o.ExactDict := by
        rcases hk with ⟨kvs, hk⟩ | ⟨kvs, hk⟩
        · obtain ⟨_, _, _, _, o, _, _, e, ex, _⟩ := I.hok p _ hk
          exact ⟨o, e, ex⟩
        · obtain ⟨_, _, _, _, o, _, _, e, ex, _⟩ := I.hok p _ hk
          exact ⟨o, e, ex⟩
      obtain ⟨o, e, ex⟩ := z
      refine ⟨⟨o, e, ex.1⟩, fun a e2 => ?_⟩
      cases e2
      exact ⟨o, e, ex.2.1⟩
    · obtain ⟨o, _, _, _, e, ex, _⟩ := I.hok p _ hk
      refine ⟨⟨o, e, ex.1⟩, fun a e2 => ?_⟩
      cases e2
      exact ⟨o, e, ex.2.1⟩
  | _ => exact False.elim ty
noncomputable def tBM (K : PySem.W.Frag) (T : String) (r : V → List V → Hp → VK → Prop) (to : TE) (t : TA) : TE := fun σ H Q => to σ H fun x H1 => tyV K T x H1 ∧ t σ H1 fun xs H2 => r x xs H2 Q
variable {o e : Expr} {es : List Expr} {to : TE} {t : TA} {name : Str} {apos cpos : Pos} {T id : String} {r : V → List V → Hp → VK → Prop}
theorem pe_bm (pa : PlainAttrs T) (slot : Slot T name id) (hty : typeOf (.builtin id) = pure (.type "method_descriptor")) (hm : MtR X id r) (ho : PE X o to) (ha : PA X (e :: es) t)
    (hbase : attributeBase o name X.env (eval o X.env) = eval o X.env := by rfl)
    (hfew : ((backTo cpos (starEach (e :: es) X.env)).all (fun x => !x.1) && (backToKw cpos (keywordEach [] X.env)).all (fun x => x.1.isSome)
      && decide ((e :: es).length + ([] : List Keyword).length + (if ([] : List Keyword).isEmpty then 0 else 1) < 30)) = true := by rfl)
    (hline : (apos.endLine == cpos.line) = true := by rfl) (hs : starEach (e :: es) X.env = (false, eval e X.env) :: starEach es X.env := by rfl) (hplain : (backTo cpos (starEach es X.env)).any (·.1) = false := by rfl) :
    PE X (.Call (.Attribute o name apos) (e :: es) [] cpos) (tBM X.K T r to t) := by
  intro pins s σ H Q I h
  refine wpAny_Call_method_late hbase hfew hline rfl (thn (ho pins s σ H _ I h) fun v s1 ⟨x, H1, I1, r1, ty, q1⟩ => ?_)
  obtain ⟨h1, h2⟩ := tyV_is I1 r1 ty
  refine ⟨T, id, pa, slot, hty, h1, h2, ?_⟩
  have hA := ha cpos pins s1 σ H1 _ I1 q1
  rw [hs] at hA ⊢
  refine Calls.callWith_builtin (by show (false || (backTo cpos (starEach es X.env)).any (·.1)) = false; rw [hplain] <;> rfl) (Calls.evalArgs_plain ?_)
  exact thn hA fun us s2 ⟨vs, H2, I2, r2, q2⟩ => hm pins s2 σ H2 x vs v us Q I2 r1 r2 q2
end
end L2

namespace L2
open PySem PySem.Spec PyProof.Rows

noncomputable def MtM (X : Cx) (id : String) (r : V → List V → Hp → VK → Prop) : Prop :=
  ∀ (pins : List (Addr × Obj)) (s : Shared) (σ : St) (H : Hp) (x : V) (xs : List V) (v : Value) (us : List Value) (Q : VK), Inv X pins σ H s → RelV x v → Vals xs us → r x xs H Q →
    wpAny (model X.prog X.w) X.A (call (.builtin id) (v :: us)) (EP X pins σ Q) X.xe s

theorem Vals.one : ∀ {x : V} {us : List Value}, Vals [x] us → ∃ u, us = [u] ∧ RelV x u
  | _, _, .cons r .nil => ⟨_, rfl, r⟩
theorem Vals.eraseIdx : ∀ {xs : List V} {us : List Value} (i : Nat), Vals xs us → Vals (xs.eraseIdx i) (us.eraseIdx i)
  | _, _, _, .nil => .nil
  | _, _, 0, .cons _ t => t
  | _, _, i + 1, .cons r t => .cons r (Vals.eraseIdx i t)
theorem len_erase {α : Type} : ∀ (l : List α) (i : Nat), (l.eraseIdx i).length ≤ l.length
  | [], _ => Nat.le_refl _
  | _ :: _, 0 => Nat.le_succ _
  | _ :: r, i + 1 => Nat.succ_le_succ (len_erase r i)

section
variable {X : Cx} {pins : List (Addr × Obj)} {σ : St} {H : Hp} {s : Shared} {l b : Addr} {xs ys zs : List V}

theorem Inv.lset {its its' : List Value} {n : Nat} {f : Array Value → Array Value} {t' : Nat} (I : Inv X pins σ H s) (hH : H l = some (.lst xs))
    (e : s.heap.get? l = some { cls := .type "list", data := .seq its.toArray n }) (hf : f its.toArray = its'.toArray) (hv : Vals ys its') (hz : ys.length ≤ sizeLine) :
    Inv X pins σ (upd H l (.lst ys)) { s with heap := s.heap.update l (Obj.mapSeq f), toks := t' } := by
  have q := PySem.IsL.update e f
  rw [hf] at q
  refine I.write (x := l) (e := l) (by rw [hH]; exact trivial) (.inl rfl) (fun b' u hb hu => (Heap.get?_update_other s.heap (Obj.mapSeq f) (Ne.symm hb)).trans hu) ⟨_, q⟩ ?_
  exact ⟨hz, its', _, hv, q⟩
theorem Inv.lnew {its : List Value} {t' : Nat} (I : Inv X pins σ H s) (hv : Vals ys its) (hz : ys.length ≤ sizeLine) :
    Inv X pins σ (upd H s.heap.objs.size (.lst ys)) { s with heap := s.heap.push { cls := .type "list", data := .seq its.toArray }, toks := t' } :=
  I.laid (fun _ _ q => Heap.get?_push_of_some _ q) (Nat.le_refl _) ⟨hz, its, 0, hv, Heap.get?_push_size _ rfl⟩
theorem Inv.fresh (I : Inv X pins σ H s) : H s.heap.objs.size = none := I.hok.fresh (Nat.le_refl _)
theorem Inv.lstM (I : Inv X pins σ H s) (hH : H l = some (.lst xs)) : xs.length ≤ sizeLine ∧ ∃ (its : List Value) (n : Nat), Vals xs its ∧ xs.length = its.length ∧ s.heap.get? l = some { cls := .type "list", data := .seq its.toArray n } := by
  obtain ⟨z, its, n, r, e⟩ := I.hok l _ hH
  exact ⟨z, its, n, r, r.length, e⟩

end

section
variable {X : Cx}

noncomputable def rAppend : V → List V → Hp → VK → Prop := fun x vs H Q => ∃ l xs y, x = .ref l ∧ vs = [y] ∧ H l = some (.lst xs) ∧ xs.length < sizeLine ∧ Q .non (upd H l (.lst (xs ++ [y])))
theorem mt_append : MtM X "list.append" rAppend := by
  intro pins s σ H x vs v us Q I rx rv h
  obtain ⟨l, xs, y, rfl, rfl, hH, hz, q⟩ := h
  cases rx
  obtain ⟨u, rfl, ru⟩ := rv.one
  obtain ⟨z, its, n, r, hl, e⟩ := I.lstM hH
  refine call_meets F.slot_list_append ⟨_, e, rfl⟩ F.entry_list_append (F.args_list_append_2 _ _) (PySem.list_append l its.toArray n u (by rw [List.size_toArray]; omega)) ⟨e, ?_⟩
  refine ⟨.non, _, I.lset (its' := its ++ [u]) hH e (by simp) (r.append (.cons ru .nil)) ?_, rfl, q⟩
  rw [List.length_append, List.length_singleton]
  omega



noncomputable def rPopAt : V → List V → Hp → VK → Prop := fun x vs H Q => ∃ l xs i k y, x = .ref l ∧ vs = [.int i] ∧ H l = some (.lst xs) ∧ -(2 ^ 63) ≤ i ∧ i < 2 ^ 63 ∧ seqIndex? i xs.length = some k ∧ xs[k]? = some y ∧ Q y (upd H l (.lst (xs.eraseIdx k)))
theorem mt_popAt : MtM X "list.pop" rPopAt := by
  intro pins s σ H x vs v us Q I rx rv h
  obtain ⟨l, xs, i, k, y, rfl, rfl, hH, h1, h2, hk, hy, q⟩ := h
  cases rx
  obtain ⟨u, rfl, ru⟩ := rv.one
  obtain ⟨t, rfl⟩ := ru
  obtain ⟨z, its, n, r, hl, e⟩ := I.lstM hH
  obtain ⟨w, hw, rw'⟩ := r.get hy
  refine call_meets F.slot_list_pop ⟨_, e, rfl⟩ F.entry_list_pop (F.args_list_pop_2 _ _)
    (MeetsSeq.list_pop_at l its.toArray n i t k w (fitsIndex_both h1 h2) (by rw [List.size_toArray, ← hl]; exact hk) (by rw [← Array.getElem?_toList]; exact hw) (by rw [List.size_toArray]; omega)) ⟨e, ?_⟩
  refine ⟨y, _, I.lset (its' := its.eraseIdx k) hH e ?_ (r.eraseIdx k) ?_, rw', q⟩
  · show its.toArray.eraseIdxIfInBounds k = (its.eraseIdx k).toArray
    rw [List.eraseIdxIfInBounds_toArray]
  · have := len_erase xs k
    omega



noncomputable def rCat : R2 := fun x y H Q => ∃ l b xs zs, x = .ref l ∧ y = .ref b ∧ H l = some (.lst xs) ∧ H b = some (.lst zs) ∧ xs.length + zs.length ≤ sizeLine ∧ ∀ p, H p = none → Q (.ref p) (upd H p (.lst (xs ++ zs)))
theorem op_cat : OpR X (binaryOp .Add) rCat := by
  intro pins s σ H x y v u Q I rx ry h
  obtain ⟨l, b, xs, zs, rfl, rfl, hH, hB, hz, q⟩ := h
  cases rx
  cases ry
  obtain ⟨z, its, n, r, hl, e⟩ := I.lstM hH
  obtain ⟨z2, its2, n2, r2, hl2, e2⟩ := I.lstM hB
  refine PySem.P.add_list e e2 ?_ (by rw [List.size_toArray, List.size_toArray]; omega)
  have ea : its.toArray ++ its2.toArray = (its ++ its2).toArray := by simp
  rw [ea]
  exact ⟨.ref _, _, I.lnew (t' := s.toks) (r.append r2) (by rw [List.length_append]; omega), rfl, q _ I.fresh⟩

end

section
variable {prog : Program} {w : World} {A : Around} {E : Value → Shared → Prop} {s : Shared}
end

section
variable {X : Cx}
end
end L2

namespace L2
open PySem PySem.Spec PyProof.Rows

section
variable {κ : Type} [DecidableEq κ]
noncomputable def valV (kvs : List (κ × V)) (k : κ) : Option V := (kvs.find? fun kv => decide (kv.1 = k)).map (·.2)

theorem valV_pos {p : κ × V} {r : List (κ × V)} {k : κ} (e : p.1 = k) : valV (p :: r) k = some p.2 := by simp [valV, List.find?_cons, e]
theorem valV_neg {p : κ × V} {r : List (κ × V)} {k : κ} (e : ¬ p.1 = k) : valV (p :: r) k = valV r k := by simp [valV, List.find?_cons, e]


theorem KV.val {kvs : List (κ × V)} {vs : List (κ × Value)} (r : KV kvs vs) (k : κ) : RelO (valV kvs k) (valueAt vs k) := by
  unfold KV at r
  induction r with
  | nil => exact True.intro
  | @cons p q ps qs h t ih =>
    obtain ⟨h1, h2⟩ := h
    by_cases e : p.1 = k
    · have e' : q.1 = k := h1.symm.trans e
      have b : valueAt (q :: qs) k = some q.2 := by simp [valueAt, List.find?_cons, e']
      rw [valV_pos e, b]; exact h2
    · have e' : ¬ q.1 = k := fun z => e (h1.trans z)
      have b : valueAt (q :: qs) k = valueAt qs k := by simp [valueAt, List.find?_cons, e']
      rw [valV_neg e, b]; exact ih
theorem KV.any {kvs : List (κ × V)} {vs : List (κ × Value)} (r : KV kvs vs) (k : κ) : (kvs.any fun kv => decide (kv.1 = k)) = vs.any fun kv => decide (kv.1 = k) := by
  unfold KV at r
  induction r with
  | nil => rfl
  | cons h t ih => rw [List.any_cons, List.any_cons, ih, h.1]
theorem KV.length {kvs : List (κ × V)} {vs : List (κ × Value)} (r : KV kvs vs) : kvs.length = vs.length := Paired.length r
end



abbrev KT (H : Hp) : List (List Key × V) → List (List Key × Addr × Value) → Prop := Paired fun p q => p.1 = q.1 ∧ H q.2.1 = some (.tup (p.1.map kV)) ∧ RelV p.2 q.2.2
theorem KT.val {H : Hp} {kvs : List (List Key × V)} {xs : List (List Key × Addr × Value)} (r : KT H kvs xs) (k : List Key) : RelO (valV kvs k) ((atKey xs k).map (·.2)) := by
  induction r with
  | nil => exact True.intro
  | @cons p q ps qs h t ih =>
    obtain ⟨h1, _, h2⟩ := h
    by_cases e : p.1 = k
    · have e' : q.1 = k := h1.symm.trans e
      have b : atKey (q :: qs) k = some q.2 := by simp [atKey, List.find?_cons, e']
      rw [valV_pos e, b]; exact h2
    · have e' : ¬ q.1 = k := fun z => e (h1.trans z)
      have b : atKey (q :: qs) k = atKey qs k := by simp [atKey, List.find?_cons, e']
      rw [valV_neg e, b]; exact ih
theorem KT.keeps {H H' : Hp} {kvs : List (List Key × V)} {xs : List (List Key × Addr × Value)} (r : KT H kvs xs) (ht : ∀ b ys, H b = some (.tup ys) → H' b = some (.tup ys)) : KT H' kvs xs :=
  Paired.mapP r fun _ _ z => ⟨z.1, ht _ _ z.2.1, z.2.2⟩

section
variable {P : Program} {w : World} {H : Hp} {h : Heap} {a : Addr}
theorem rd_of {u : HO} (ok : HOk P w H h) (e : Rd H a u) : ObjOk P w H h a u := e.ok ok
theorem dk_rd {kvs : List (Key × V)} (ok : HOk P w H h) (e : Rd H a (.dK kvs)) : kvs.length ≤ sizeLine ∧ (a == sysModules) = false ∧ ∃ vs, KV kvs vs ∧ h.DictOf (mixKind P w) a vs :=
  show ObjOk P w H h a (.dK kvs) from rd_of ok e
theorem dk_of {kvs : List (Key × V)} (ok : HOk P w H h) (e : H a = some (.dK kvs)) : kvs.length ≤ sizeLine ∧ (a == sysModules) = false ∧ ∃ vs, KV kvs vs ∧ h.DictOf (mixKind P w) a vs := dk_rd ok (.inl e)
end

noncomputable def DGet (H : Hp) (a : Addr) (y : V) (r : Option V) : Prop :=
  (∃ kvs k, Rd H a (.dK kvs) ∧ y = kV k ∧ r = valV kvs k) ∨ ∃ kvs k b, Rd H a (.dT kvs) ∧ y = .ref b ∧ H b = some (.tup (k.map kV)) ∧ r = valV kvs k


section
variable {X : Cx} {pins : List (Addr × Obj)} {σ : St} {H : Hp} {s : Shared} {a : Addr} {y v : V} {u r : Value} {o : Option V} {A : Around} {E : Value → Shared → Prop}

theorem Inv.big (I : Inv X pins σ H s) : sysModules < s.heap.objs.size := by
  have h : mainGlobals < s.heap.objs.size := (I.mod.glob.keeps I.bk).lt
  exact Nat.lt_trans (by decide) h

end

section
variable {X : Cx} {pins : List (Addr × Obj)} {σ : St} {H : Hp} {s : Shared} {a : Addr} {kvs : List (Key × V)} {k : Key} {u : Value} {A : Around} {E : Value → Shared → Prop}
end




noncomputable def tDGet (td ty : TE) : TE := fun σ H Q => td σ H fun x H1 => ty σ H1 fun y H2 => ∃ a v, x = .ref a ∧ DGet H2 a y (some v) ∧ Q v H2

section
variable {X : Cx} {o i e value : Expr} {pos pos' tpos : Pos} {td ty tv : TE}
end


theorem dk_empty {P : Program} {w : World} {H : Hp} (h : Heap) (hb : sysModules < h.objs.size) : ObjOk P w H (h.push { cls := .type "dict", data := .dict #[] }) h.objs.size (.dK []) :=
  ⟨Nat.zero_le _, beq_eq_false_iff_ne.mpr (Ne.symm (Nat.ne_of_lt hb)), [], .nil, Heap.DictOf.new h⟩
noncomputable def tDNewK : TE := fun _ H Q => ∀ p, H p = none → Q (.ref p) (upd H p (.dK []))
section
variable {X : Cx} {pos : Pos}
theorem pe_dnewK : PE X (.Dict [] [] pos) tDNewK := fun pins s σ H Q I h =>
  wpAny_Dict_empty ⟨.ref s.heap.objs.size, _, I.laid (a := s.heap.objs.size) (o := .dK []) (t' := s.toks) (fun _ _ q => Heap.get?_push_of_some _ q) (Nat.le_refl _) (dk_empty s.heap I.big), rfl, h _ (I.hok.fresh (Nat.le_refl _))⟩
end




structure M1 (X : Cx) (o : Expr) (m : Str) (apos : Pos) (e : Expr) (cpos : Pos) : Prop where
  base : attributeBase o m X.env (eval o X.env) = eval o X.env
  few : ((backTo cpos (starEach [e] X.env)).all (fun x => !x.1) && (backToKw cpos (keywordEach [] X.env)).all (fun x => x.1.isSome)
    && decide (([e] : List Expr).length + ([] : List Keyword).length + (if ([] : List Keyword).isEmpty then 0 else 1) < 30)) = true
  line : (apos.endLine == cpos.line) = true
  trees : backTo cpos (starEach [e] X.env) = [(false, eval e X.env)]
structure M2 (X : Cx) (o : Expr) (m : Str) (apos : Pos) (e f : Expr) (cpos : Pos) : Prop where
  base : attributeBase o m X.env (eval o X.env) = eval o X.env
  few : ((backTo cpos (starEach [e, f] X.env)).all (fun x => !x.1) && (backToKw cpos (keywordEach [] X.env)).all (fun x => x.1.isSome)
    && decide (([e, f] : List Expr).length + ([] : List Keyword).length + (if ([] : List Keyword).isEmpty then 0 else 1) < 30)) = true
  line : (apos.endLine == cpos.line) = true
  trees : backTo cpos (starEach [e, f] X.env) = [(false, eval e X.env), (false, eval f X.env)]


section
variable {X : Cx} {pins : List (Addr × Obj)} {σ : St} {H : Hp} {s : Shared} {a : Addr} {y d : V} {u r : Value} {o : Option V} {A : Around} {E : Value → Shared → Prop}
end

section
variable {X : Cx} {o e f : Expr} {apos cpos : Pos} {td ty tx : TE}
end

section
variable {X : Cx} {pins : List (Addr × Obj)} {σ : St} {H : Hp} {s : Shared} {a : Addr} {kvs : List (Key × V)} {A : Around} {E : Value → Shared → Prop}
end


section
variable {X : Cx} {pins : List (Addr × Obj)} {σ : St} {H : Hp} {s : Shared} {a : Addr} {y : V} {u : Value} {A : Around} {E : Value → Shared → Prop}
end
end L2

namespace Att
open PySem PySem.W PySem.Calls PyProof.Rows

theorem ints_of_wellAll {P : Params} {h : Heap} : ∀ (ns : List Int) (vs : List Value), WellAll P h vs (ns.map WData.int) → IntsAre vs ns := by
  intro ns
  induction ns with
  | nil =>
    intro vs w
    rw [List.map_nil] at w
    cases w
    exact .nil
  | cons n ns ih =>
    intro vs w
    rw [List.map_cons] at w
    cases w with
    | cons a b =>
      cases a
      exact .cons _ _ (ih _ b)

theorem script_of {l : OpenLaw} {n : Nat} (hn : l.most = some n) {P : Params} {h : Heap} {args : List WData} {vals : List Value}
    (hpre : l.row.toRowW.claim.pre args = true) (hwl : WellAll P h vals args) :
    ∃ a vs ns, vals = [Value.ref a] ∧ args = [WData.list (ns.map WData.int)] ∧ h.get? a = some { cls := .type "list", data := .seq vs.toArray } ∧ IntsAre vs ns ∧ ns.length ≤ n := by
  have hsh : WShape.hasAll [] args [.list .int] = true := (pre_splitW hpre).1
  have hc : l.pre.holds [] { args := args } = true := (pre_splitW hpre).2
  obtain ⟨d, r, rfl, h1, h2⟩ := hasAllW_cons hsh
  obtain rfl := hasAllW_nil h2
  obtain ⟨xs, rfl, h3⟩ := hasW_list h1
  obtain ⟨ns, rfl⟩ := items_int h3
  have hlen : ns.length ≤ n := by
    unfold OpenLaw.pre at hc
    have h4 : (WTm.not (.lt (.lit (.int (n : Int))) (.len (.arg 0)))).holds [] { args := [.list (ns.map .int)] } = true := by
      have h4 := (holds_andW hc).1
      rw [hn] at h4
      exact h4
    have h5 := condW_of h4 (w_not (w_lt w_lit (w_len_list (w_arg rfl))))
    rw [List.length_map] at h5
    refine Nat.le_of_not_lt fun q => ?_
    have q' : (n : Int) < ((ns.length : Nat) : Int) := by omega
    first
      | (rw [decide_eq_true q'] at h5; exact absurd h5 (by decide))
      | (simp at h5; omega)
  cases hwl with
  | cons w1 w2 =>
    cases w2
    cases w1 with
    | list ho hall => exact ⟨_, _, ns, rfl, rfl, ho, ints_of_wellAll ns _ hall, hlen⟩

theorem post_true (l : OpenLaw) (args : List WData) : l.row.toRowW.claim.post args (.bool true) args = true :=
  postW_of (r := l.row.toRowW) (X := (true == true))
    (show WShape.has [] (.bool true) .bool = true by first | rfl | decide | simp [WShape.has, WShape.arms, WShape.armsAll])
    (show (WTm.eq .res (.lit (.bool true))).value [] { args := args, res := some (.bool true), after := args } = some (.bool (true == true)) from w_eq_bool (w_res rfl) w_lit) rfl


theorem attach_call {l : OpenLaw} {n : Nat} {q : Program} {loose : List Str} {XP : (Str → Option Value) → Heap → Prop} {YP : World → Heap → Prop} {d : DefRec}
    (hn : l.most = some n) (hdf : d.params.defaults = [])
    (call : ∀ (w : World) (s₀ s₁ : Shared) (mg mb : Str → Option Value) (fa : Addr) (o : Obj) (pm cd doc : Value) (a : Addr) (vs : List Value) (ns : List Int),
      Ground q loose [] XP w s₀ mg mb s₁.heap → YP w s₁.heap →
      s₁.heap.get? fa = some o → o.data = .func (docDef d.name d.params d.body d.scope pm cd doc) → s₁.heap.CodeRec cd d.name → mg d.name = some (.ref fa) →
      s₁.heap.get? a = some { cls := .type "list", data := .seq vs.toArray } → IntsAre vs ns → ns.length ≤ n → s₁.gens = #[] →
      codeAny (model l.prog w) callerA (.call (.ref fa) ⟨[.ref a], []⟩) (fun r s' => r = .ok (.ret (.bool true)) ∧ OldK s₁.heap s'.heap ∧ s'.os = s₁.os ∧ AllBare s'.gens) s₁) :
    WalkO q loose XP YP l.row.toRowW d [] (fun f vs => PySem.call f vs) := by
  intro w s₀ s₁ mg mb G Y fa o pm cd doc dV kV ho hd hcd hD hmg hg args vals as hpre hlay hrd hwl hlo
  obtain rfl : dV = .none := Dflts.none hD hdf
  obtain rfl : kV = .none := Dflts.noKw hD
  obtain ⟨a, vs, ns, rfl, rfl, hobj, hints, hlen⟩ := script_of hn hpre hwl
  refine enter_call (codeAny_mono (call w s₀ s₁ mg mb fa o pm cd doc a vs ns G Y ho (fd_plain hd) hcd hmg hobj hints hlen hg) fun r s' hq => ?_)
  obtain ⟨rfl, h2, h3, h4⟩ := hq
  exact ⟨.inl ⟨.bool true, .bool true, [], rfl, fun _ => rfl, .bool true, post_true l _, fun _ => ⟨List.Pairwise.nil, fun _ hm => (nomatch hm)⟩⟩, h2, h3, h4⟩


section
variable {prog : Program} {w : World} {A : Around} {E : Value → Shared → Prop} {s : Shared} {K : Frag}






end
end Att

namespace L2
open PySem PySem.Spec PyProof.Rows

theorem vals_ints : ∀ {vs : List Value} {ns : List Int}, IntsAre vs ns → Vals (ns.map V.int) vs
  | _, _, .nil => .nil
  | _, _, .cons n t h => .cons ⟨t, rfl⟩ (vals_ints h)

noncomputable def Only (H : Hp) : Prop := ∀ b, H b = none ∨ ∃ o xs, H b = some (.frz o (.lst xs))

theorem law_call {P : Program} {w : World} {K : PySem.W.Frag} {mg mb : Str → Option Value} {CX : CXT} {k : Nat} {fa a : Addr} {fd : FuncData} {x : Str} {sp : Sp} {s₁ : Shared} {vs : List Value} {ns : List Int}
    (KX : K.In s₁.heap) (hns : s₁.heap.Ns mainGlobals mg) (hb : s₁.heap.Ns builtinsNs mb) (hbb : ∀ x : Str, x ≠ "__name__" → mb x = bootBuiltins x) (hlim : s₁.heap.NoLimit) (hg : s₁.gens = #[])
    (ha : s₁.heap.get? a = some { cls := .type "list", data := .seq vs.toArray }) (hi : IntsAre vs ns) (hl : ns.length ≤ sizeLine) (hr : Room k callerA)
    (F : ∀ base : Heap, K.In base → base.Ns mainGlobals mg → FnOk P w K mg base CX k fa fd [x] sp) (hbind : ∀ (s : Shared) (u : Value), BindsTo s fd ⟨[u], []⟩ [(x, u)])
    (hsp : ∀ H : Hp, Only H → SqL K H a (ns.map V.int) → sp [.ref a] H (fun v _ => v = .bl true) fun _ _ _ => False)
    (hCX : ∀ H e s', CX [] H s₁ (fun _ _ _ => False) e s' → False) :
    codeAny (model P w) callerA (.call (.ref fa) ⟨[.ref a], []⟩) (fun r s' => r = .ok (.ret (.bool true)) ∧ OldK s₁.heap s'.heap ∧ s'.os = s₁.os ∧ AllBare s'.gens) s₁ := by
  have rv := vals_ints hi
  have lenV := hi.length
  -- from an abstract heap in which nothing but the script may be tracked
  have core : ∀ H : Hp, Only H → SqL K H a (ns.map V.int) → HOk P w H s₁.heap → (∀ b, H b ≠ none → b = a) → (H a ≠ none → K.lookup a = none) →
      codeAny (model P w) callerA (.call (.ref fa) ⟨[.ref a], []⟩) (fun r s' => r = .ok (.ret (.bool true)) ∧ OldK s₁.heap s'.heap ∧ s'.os = s₁.os ∧ AllBare s'.gens) s₁ := by
    intro H hO hS hok hA hK
    have base_of : ∀ {b : Addr} {o : Obj}, s₁.heap.get? b = some o → H b = none → (hidT s₁.heap H).get? b = some o := fun e n => hidT_get e n
    have noA : ∀ {b : Addr} {o : Obj} {es : Array DictEntry} {ep : Nat}, s₁.heap.get? b = some o → o.data = .dict es ep → H b = none := fun {b o es ep} e d => by
      cases q : H b with
      | none => rfl
      | some u =>
        have e' : b = a := hA b (by rw [q]; simp)
        subst e'
        rw [ha] at e; cases e
        have d' : Data.seq vs.toArray _ = Data.dict es ep := d
        cases d'
    have nsK : ∀ {b : Addr} {m : Str → Option Value}, s₁.heap.Ns b m → (hidT s₁.heap H).Ns b m := fun {b m} ⟨o, es, ep, e, d, r⟩ => ⟨o, es, ep, base_of e (noA e d), d, r⟩
    have hKb : K.In (hidT s₁.heap H) := fun b o e => base_of (KX b o e) (by
      cases q : H b with
      | none => rfl
      | some u =>
        have e' : b = a := hA b (by rw [q]; simp)
        subst e'
        rw [hK (by rw [q]; simp)] at e; cases e)
    have hM : Mod K mg (hidT s₁.heap H) := ⟨hKb, nsK hns, ⟨mb, nsK hb, hbb⟩, let ⟨mc, h1, h2⟩ := hlim; ⟨mc, nsK h1, h2⟩⟩
    have e0 : Env0 P w K mg (hidT s₁.heap H) callerA [] s₁ H := ⟨rfl, hM, fun b o e => of_hidT e, Nat.le_of_eq (hidT_size _ _), trivial, fun b hb => absurd (show b ∈ ([] : List Addr) from hb) (by simp), hok, .of_eq hg⟩
    refine codeAny_mono ((F _ hKb (nsK hns)).run callerA [] s₁ H ⟨[.ref a], []⟩ [.ref a] [.ref a] _ _ hr e0 (hbind s₁ (.ref a)) (.cons rfl .nil) (hsp H hO hS)) fun r s' h => ?_
    cases r with
    | error e => exact (hCX H e s' h).elim
    | ok fl =>
      cases fl with
      | next => exact False.elim h
      | brk => exact False.elim h
      | cont => exact False.elim h
      | ret u =>
        obtain ⟨v, H', os, bare, un, hok', r', q⟩ := h
        have q' : v = .bl true := q
        subst q'
        obtain rfl : u = Value.bool true := r'
        refine ⟨rfl, OldK.of_keep fun b o e => ?_, os, bare⟩
        cases q : H b with
        | none => exact un.keep b o e q (by intro z; exact absurd (show b ∈ ([] : List Addr) from z) (by simp)) (by simp)
        | some u =>
          rcases hO b with z | ⟨ob, xs, z⟩
          · rw [q] at z; cases z
          · have z2 := un.frzs b ob _ z
            obtain ⟨e1, _⟩ := hok b _ z
            obtain ⟨e2, _⟩ := hok' b _ z2
            rw [e] at e1; cases e1
            exact e2
  cases hk : K.lookup a with
  | some o =>
    -- the script is one of the module's own objects
    have e := KX a o hk
    rw [ha] at e
    cases e
    refine core (fun _ => none) (fun _ => .inl rfl) (.inr ⟨_, vs.toArray, _, hk, rfl, rfl, rfl, by rw [List.size_toArray, lenV]; exact hl, by simpa using rv⟩) (fun b u z => by have z' : (none : Option HO) = some u := z; cases z') (fun b z => absurd rfl z) fun z => absurd rfl z
  | none =>
    refine core (fun b => if b = a then some (.frz { cls := .type "list", data := .seq vs.toArray } (.lst (ns.map V.int))) else none) (fun b => ?_) (.inl (.inr ⟨{ cls := .type "list", data := .seq vs.toArray }, if_pos rfl⟩)) (fun b u z => ?_) (fun b z => ?_) fun _ => hk
    · by_cases hb : b = a
      · exact .inr ⟨_, _, if_pos hb⟩
      · exact .inl (if_neg hb)
    · by_cases hb : b = a
      · have z' := (if_pos hb).symm.trans z
        cases z'
        subst hb
        exact ⟨ha, by rw [List.length_map]; exact hl, vs, _, rv, ha⟩
      · have z' := (if_neg hb).symm.trans z
        cases z'
    · by_cases hb : b = a
      · exact hb
      · exact absurd (if_neg hb) z
end L2

namespace L2
open PySem PySem.Spec PyProof.Rows


theorem walk_of {l : PySem.W.OpenLaw} {n k : Nat} {q : Program} {loose : List Str} {XP : (Str → Option Value) → Heap → Prop} {YP : World → Heap → Prop} {d : DefRec} {K : Params → PySem.W.Frag} {CX : World → CXT} {sp : World → Sp} {x : Str}
    (hn : l.most = some n) (hn2 : n ≤ sizeLine) (hdf : d.params.defaults = []) (hr : Room k callerA)
    (hY : ∀ (w : World) (h : Heap), YP w h → (K w.params).In h)
    (F : ∀ (w : World) (mg : Str → Option Value) (fa : Addr) (h : Heap), (K w.params).In h → h.Ns mainGlobals mg → mg d.name = some (.ref fa) →
      ∃ fd : FuncData, (∀ (s : Shared) (u : Value), BindsTo s fd ⟨[u], []⟩ [(x, u)]) ∧
        ∀ base : Heap, (K w.params).In base → base.Ns mainGlobals mg → FnOk l.prog w (K w.params) mg base (CX w) k fa fd [x] (sp w))
    (hsp : ∀ (w : World) (H : Hp) (a : Addr) (ns : List Int), ns.length ≤ n → Only H → SqL (K w.params) H a (ns.map V.int) → sp w [.ref a] H (fun v _ => v = .bl true) fun _ _ _ => False)
    (hCX : ∀ (w : World) (H : Hp) (s : Shared) (e : Value) (s' : Shared), CX w [] H s (fun _ _ _ => False) e s' → False) :
    PySem.W.WalkO q loose XP YP l.row.toRowW d [] (fun f vs => PySem.call f vs) := by
  refine Att.attach_call hn hdf fun w s₀ s₁ mg mb fa o pm cd doc a vs ns G Y ho hd hcd hmg hobj hints hlen hg => ?_
  have KX := hY w _ Y
  obtain ⟨fd, hb, hF⟩ := F w mg fa _ KX G.T.g hmg
  exact law_call KX G.T.g G.T.b G.T.builtins G.T.nolimit hg hobj hints (Nat.le_trans hlen hn2) hr hF hb (fun H hO hS => hsp w H a ns hlen hO hS) fun H e s' => hCX w H s₁ e s'
end L2

/- THE LAST THEOREM (shape; LID, My.* are yours):
   My.Adr: a structure of the addresses that your layer names (classes, functions); My.Txt K t: a structure (Prop) of the equations over K;
   My.txt_mk : {K} {implicit addresses ..} (e1 : nsIn K mainGlobals "law" = some (some (.ref f))) (e2 : K.lookup f = some ⟨oc, od, .func (fnOf "law" "law" params body scope dV kV doc pm an cdv ct), sl⟩) (e3 : codeIn K cdv "law" = true) .. : ∃ t, My.Txt K t

(the tactic k_is has no namespace: write k_is) -/

namespace L2
open PySem PySem.Spec PyProof.Rows

noncomputable def defArgs (s : Stmt) : Arguments := match s with
  | .FunctionDef _ a _ _ _ _ _ _ _ _ => a
  | _ => { posonlyargs := [], args := [], vararg := none, kwonlyargs := [], kw_defaults := [], kwarg := none, defaults := [] }
noncomputable def defBody (s : Stmt) : List Stmt := match s with
  | .FunctionDef _ _ b _ _ _ _ _ _ _ => b
  | _ => []
noncomputable def defScope (s : Stmt) : Scope := match s with
  | .FunctionDef _ _ _ _ _ _ sc _ _ _ => sc
  | _ => { kind := .function, names := [], isGenerator := false, isCoroutine := false }

abbrev CX0 : CXT := fun _ _ _ _ _ _ => False
abbrev E0 : XK := fun _ _ _ => False
theorem pass0 {X : Cx} : Passes CX0 X E0 := fun _ _ _ _ _ _ _ h => h.elim

structure Fun (K : PySem.W.Frag) (x qual : Str) (st : Stmt) (f : Addr) (fd : FuncData) : Prop where
  ex : ∃ (oc : Value) (od : Option Addr) (kV doc pm : Value) (an : Option Addr) (cdv ct : Value) (osl : Array (Option Value)),
    fd = PySem.W.fnOf x qual (defArgs st) (defBody st) (defScope st) .none kV doc pm an cdv ct ∧ K.lookup f = some ⟨oc, od, .func fd, osl⟩ ∧ PySem.W.codeIn K cdv qual = true
  kp : PySem.W.keepIn K (.ref f) = true
section
variable {P : Program} {w : World} {K : PySem.W.Frag} {mg : Str → Option Value} {base : Heap}
theorem Fun.ok {x qual : Str} {st : Stmt} {f : Addr} {fd : FuncData} {N ps : List Str} {k : Nat} {sp : Sp} (F : Fun K x qual st f fd) (S : FnScope N ps (defScope st)) (len : ∀ vs H Q E, sp vs H Q E → vs.length = ps.length)
    (hbody : ∀ (cdv : Value) (A : Around) (outer : List Env) (s : Shared) (H : Hp) (vs : List V) (Q : VK) (E : XK), Room k (A.deeper (envOfC qual (defScope st) s.heap.objs.size f cdv)) → sp vs H Q E →
      ∃ t, PSs (cxOf CX0 P w K mg base N qual (defScope st) f cdv A outer s H E).nox (defBody st) t ∧ t { nx := fun _ H' => Q .non H', rt := Q } (start N vs) H) : FnOk P w K mg base CX0 (k + 1) f fd ps sp := by
  obtain ⟨oc, od, kV, doc, pm, an, cdv, ct, osl, rfl, lk, hcd⟩ := F.ex
  refine fn_of lk hcd S len fun A outer s H vs Q E hr hsp => ?_
  obtain ⟨t, h, q⟩ := hbody cdv A outer s H vs Q E hr hsp
  exact ⟨t, h.nox, q⟩
theorem Fun.binds {x qual : Str} {st : Stmt} {f : Addr} {fd : FuncData} {ps : List Str} (F : Fun K x qual st f fd)
    (h : ∀ (kV doc pm : Value) (an : Option Addr) (cdv ct : Value) (us : List Value), us.length = ps.length → bindArgs (PySem.W.fnOf x qual (defArgs st) (defBody st) (defScope st) .none kV doc pm an cdv ct) ⟨us, []⟩ = pure (ps.zip us)) : Binds K fd ps [] := by
  obtain ⟨oc, od, kV, doc, pm, an, cdv, ct, osl, rfl, lk, hcd⟩ := F.ex
  exact .all (h kV doc pm an cdv ct)
theorem fun_mk {x qual : Str} {st : Stmt} {f : Addr} {oc : Value} {od an : Option Addr} {osl : Array (Option Value)} {kV doc pm cdv ct : Value} (l : K.lookup f = some ⟨oc, od, .func (PySem.W.fnOf x qual (defArgs st) (defBody st) (defScope st) .none kV doc pm an cdv ct), osl⟩)
    (c : PySem.W.codeIn K cdv qual = true) (k : PySem.W.keepIn K (.ref f) = true) : Fun K x qual st f (PySem.W.fnOf x qual (defArgs st) (defBody st) (defScope st) .none kV doc pm an cdv ct) := ⟨⟨oc, od, kV, doc, pm, an, cdv, ct, osl, rfl, l, c⟩, k⟩
end
theorem hu_of {A : Around} {k : Nat} (hr : Room k A) : A.units + 1 < cLine := Nat.lt_of_le_of_lt (Nat.add_le_add_left (by decide : 1 ≤ 64) _) hr.units

section
variable {X : Cx}
theorem pv (i : Nat) {x : Str} {pos : Pos} (hN : X.N[i]? = some x := by rfl) (hv : Vis X.env.scope x := by first | exact Or.inl rfl | exact Or.inr (Or.inl rfl) | exact Or.inr (Or.inr rfl)) (hd : (x == ("__debug__" : Str)) = false := by decide)
    (hcd : (x == ("__classdict__" : Str)) = false := by decide) : PE X (.Name x pos) (tVar i) := pe_var hN hv hd hcd
end

theorem iteF {A B : Prop} (h : B) : if false = true then A else B := by
  rw [if_neg Bool.false_ne_true]
  exact h
theorem iteT {A B : Prop} (h : A) : if true = true then A else B := by
  rw [if_pos rfl]
  exact h
theorem ite2 {c A B : Prop} [Decidable c] (h1 : c → A) (h2 : ¬ c → B) : if c then A else B := by
  by_cases h : c
  · rw [if_pos h]
    exact h1 h
  · rw [if_neg h]
    exact h2 h

noncomputable def Same (H H' : Hp) : Prop := ∀ b o, H b = some o → H' b = some o
theorem Same.refl (H : Hp) : Same H H := fun _ _ h => h
theorem Same.trans {H H1 H2 : Hp} (a : Same H H1) (b : Same H1 H2) : Same H H2 := fun c o h => b c o (a c o h)
theorem Same.free {H H' : Hp} (e : Same H H') {l : Addr} (h : H' l = Option.none) : H l = Option.none := by
  cases q : H l with
  | none => rfl
  | some o =>
    rw [e l o q] at h
    cases h
theorem Same.seq {K : PySem.W.Frag} {H H' : Hp} {a : Addr} {xs : List V} (e : Same H H') (h : SqL K H a xs) : SqL K H' a xs := by
  rcases h with (h | ⟨o, h⟩) | h
  · exact .inl (.inl (e _ _ h))
  · exact .inl (.inr ⟨o, e _ _ h⟩)
  · exact .inr h

section
variable {κ : Type} [DecidableEq κ]
end
section
variable {X : Cx}
end
end L2
set_option Elab.async false
set_option linter.all false
set_option maxRecDepth 100000
set_option maxHeartbeats 4000000
namespace L2
open PySem PySem.Spec PyProof.Rows

noncomputable def wk : St → St → Prop
  | [], [] => True
  | none :: a, _ :: b => wk a b
  | some x :: a, y :: b => y = some x ∧ wk a b
  | _, _ => False
theorem wk_len : ∀ {a b : St}, wk a b → a.length = b.length
  | [], [], _ => rfl
  | [], _ :: _, h => h.elim
  | none :: _, [], h => h.elim
  | some _ :: _, [], h => h.elim
  | none :: a, _ :: b, h => congrArg (· + 1) (wk_len (a := a) (b := b) h)
  | some _ :: a, _ :: b, h => congrArg (· + 1) (wk_len (a := a) (b := b) h.2)
theorem wk_get : ∀ {a b : St}, wk a b → ∀ (i : Nat) (v : V), a[i]? = some (some v) → b[i]? = some (some v)
  | [], [], _, i, v, e => by simp at e
  | [], _ :: _, h, _, _, _ => h.elim
  | none :: _, [], h, _, _, _ => h.elim
  | some _ :: _, [], h, _, _, _ => h.elim
  | none :: a, y :: b, h, 0, v, e => by simp at e
  | none :: a, y :: b, h, i + 1, v, e => by
    have := wk_get (a := a) (b := b) h i v (by simpa using e)
    simpa using this
  | some x :: a, y :: b, h, 0, v, e => by
    have e' : x = v := by simpa using e
    subst e'
    rw [h.1]; rfl
  | some x :: a, y :: b, h, i + 1, v, e => by
    have := wk_get (a := a) (b := b) h.2 i v (by simpa using e)
    simpa using this

noncomputable def clsOf (env : Env) : List (Str × NameKind) → List (Str × Addr) → List (Str × Addr)
  | [], acc => acc
  | (n, k) :: r, acc => clsOf env r (if (k == .free) = true then (n, (env.cells.lookup n).getD 0) :: acc else acc)
theorem closure_go {env : Env} : ∀ (ns : List (Str × NameKind)) (acc : List (Str × Addr)), (∀ y ∈ ns, y.2 = .free → ∃ c, env.cells.lookup y.1 = some c) →
    (forIn ns acc (fun x r => match x with
      | (name, kind) => if (kind == NameKind.free) = true then (do let c ← cellOf env name; pure (ForInStep.yield ((name, c) :: r))) else pure (ForInStep.yield r)) : Sem (List (Str × Addr))) = pure (clsOf env ns acc)
  | [], acc, _ => rfl
  | (n, k) :: r, acc, h => by
    rw [List.forIn_cons]
    have ih := fun a => closure_go (env := env) r a fun y hy => h y (List.mem_cons_of_mem _ hy)
    by_cases hk : (k == NameKind.free) = true
    · obtain ⟨c, hc⟩ := h (n, k) List.mem_cons_self (by simpa using hk)
      have e1 : cellOf env n = pure c := by unfold cellOf; rw [hc]
      simp only [hk, if_true, e1, pure_bind]
      unfold clsOf
      simp only [hk, if_true, hc, Option.getD_some]
      exact ih _
    · simp only [hk, if_false, pure_bind]
      unfold clsOf
      simp only [hk, if_false]
      exact ih _
theorem closure_eq {scope : Scope} {env : Env} (h : ∀ y ∈ scope.names, y.2 = .free → ∃ c, env.cells.lookup y.1 = some c) : closureFor scope env = pure (clsOf env scope.names []) := by
  have e := closure_go scope.names [] h
  unfold closureFor
  first
    | (rw [show (forIn scope.names ([] : List (Str × Addr)) _ : Sem (List (Str × Addr))) = pure (clsOf env scope.names []) from e]; rfl)
    | (simp only [bind_pure]; exact e)
    | exact (congrArg (· >>= pure) e)
theorem clsOf_mem {env : Env} : ∀ (ns : List (Str × NameKind)) (acc : List (Str × Addr)) (n : Str) (a : Addr), (n, a) ∈ clsOf env ns acc → (n, a) ∈ acc ∨ (a = (env.cells.lookup n).getD 0 ∧ (n, NameKind.free) ∈ ns)
  | [], acc, n, a, h => .inl h
  | (m, k) :: r, acc, n, a, h => by
    unfold clsOf at h
    by_cases hk : (k == NameKind.free) = true
    · rw [if_pos hk] at h
      rcases clsOf_mem r _ n a h with q | ⟨q1, q2⟩
      · rcases List.mem_cons.mp q with q | q
        · cases q
          have hk' : k = .free := by simpa using hk
          subst hk'
          exact .inr ⟨rfl, List.mem_cons_self⟩
        · exact .inl q
      · exact .inr ⟨q1, List.mem_cons_of_mem _ q2⟩
    · rw [if_neg hk] at h
      rcases clsOf_mem r _ n a h with q | ⟨q1, q2⟩
      · exact .inl q
      · exact .inr ⟨q1, List.mem_cons_of_mem _ q2⟩
theorem clsOf_acc {env : Env} : ∀ (ns : List (Str × NameKind)) (acc : List (Str × Addr)) (p : Str × Addr), p ∈ acc → p ∈ clsOf env ns acc
  | [], _, _, h => h
  | (m, k) :: r, acc, p, h => by
    unfold clsOf
    refine clsOf_acc r _ p ?_
    split
    · exact List.mem_cons_of_mem _ h
    · exact h
theorem clsOf_free {env : Env} : ∀ (ns : List (Str × NameKind)) (acc : List (Str × Addr)) (n : Str), (n, NameKind.free) ∈ ns → (n, (env.cells.lookup n).getD 0) ∈ clsOf env ns acc
  | [], _, _, h => nomatch h
  | (m, k) :: r, acc, n, h => by
    unfold clsOf
    rcases List.mem_cons.mp h with q | q
    · cases q
      refine clsOf_acc r _ _ ?_
      rw [if_pos (by rfl)]
      exact List.mem_cons_self
    · exact clsOf_free r _ n q
theorem lookup_mem {α β : Type} [BEq α] [LawfulBEq α] : ∀ {l : List (α × β)} {x : α} {y : β}, l.lookup x = some y → (x, y) ∈ l
  | [], _, _, h => by simp at h
  | (a, b) :: r, x, y, h => by
    rw [List.lookup_cons] at h
    by_cases e : (x == a) = true
    · rw [e] at h
      have e' : x = a := by simpa using e
      have h' : b = y := by simpa using h
      subst e' h'
      exact List.mem_cons_self
    · have e2 : (x == a) = false := by simpa using e
      rw [e2] at h
      exact List.mem_cons_of_mem _ (lookup_mem (by simpa using h))
theorem lookup_of_mem {α β : Type} [BEq α] [LawfulBEq α] : ∀ {l : List (α × β)} {x : α} {y : β}, (x, y) ∈ l → ∃ z, l.lookup x = some z
  | [], _, _, h => nomatch h
  | (a, b) :: r, x, y, h => by
    rw [List.lookup_cons]
    by_cases e : (x == a) = true
    · rw [e]; exact ⟨b, rfl⟩
    · have e2 : (x == a) = false := by simpa using e
      rw [e2]
      rcases List.mem_cons.mp h with q | q
      · cases q; simp at e
      · exact lookup_of_mem q
theorem cls_look {env : Env} {ns : List (Str × NameKind)} {x : Str} {c : Addr} (h : (clsOf env ns []).lookup x = some c) (hall : ∀ y ∈ ns, y.2 = .free → ∃ c, env.cells.lookup y.1 = some c) : env.cells.lookup x = some c := by
  rcases clsOf_mem ns [] x c (lookup_mem h) with q | ⟨q1, q2⟩
  · nomatch q
  · obtain ⟨c', hc⟩ := hall _ q2 rfl
    have hc' : env.cells.lookup x = some c' := hc
    rw [hc'] at q1
    rw [hc', q1]; rfl
theorem cls_has {env : Env} {ns : List (Str × NameKind)} {x : Str} (h : (x, NameKind.free) ∈ ns) : ∃ c, (clsOf env ns []).lookup x = some c := lookup_of_mem (clsOf_free ns [] x h)

noncomputable def Cx.block (X : Cx) (N : List Str) (scope : Scope) (C : Addr) (s : Shared) (H : Hp) (fp : List Addr) : Cx :=
  { X with N := N, s₀ := s, H₀ := H, env := compEnvC scope (clsOf X.env scope.names []) C X.env, outer := X.stack, ex := fp, fn := fun _ => false, pn := [], xe := fun _ _ => False }
theorem relabel_kind {scope : Scope} {env : Env} {x : Str} {k : NameKind} (h : (relabel scope env).names.lookup x = some k) : ∃ k', scope.names.lookup x = some k' ∧ (k = k' ∨ (k' = .free ∧ k = .cell)) := by
  unfold relabel at h
  generalize scope.names = ns at h
  induction ns with
  | nil => simp at h
  | cons p r ih =>
    obtain ⟨n, k0⟩ := p
    rw [List.map_cons] at h
    by_cases e : (x == n) = true
    · refine ⟨k0, by rw [List.lookup_cons, e], ?_⟩
      by_cases c : (k0 == NameKind.free && env.scope.kind == .function && env.kindOf n == some .cell) = true
      · have h1 : some NameKind.cell = some k := by
          have h2 := h
          simp only [c, if_true] at h2
          rw [List.lookup_cons, e] at h2
          exact h2
        have h3 : k0 = .free := by
          simp only [Bool.and_eq_true, beq_iff_eq] at c
          exact c.1.1
        exact .inr ⟨h3, (Option.some.inj h1).symm⟩
      · have h1 : some k0 = some k := by
          have h2 := h
          simp only [c, Bool.false_eq_true, if_false] at h2
          rw [List.lookup_cons, e] at h2
          exact h2
        exact .inl (Option.some.inj h1).symm
    · have e2 : (x == n) = false := by simpa using e
      rw [List.lookup_cons, e2]
      refine ih ?_
      by_cases c : (k0 == NameKind.free && env.scope.kind == .function && env.kindOf n == some .cell) = true
      · have h2 := h
        simp only [c, if_true] at h2
        rw [List.lookup_cons, e2] at h2
        exact h2
      · have h2 := h
        simp only [c, Bool.false_eq_true, if_false] at h2
        rw [List.lookup_cons, e2] at h2
        exact h2
theorem relabel_free {scope : Scope} {env : Env} {x : Str} (h : scope.names.lookup x = some .free) : (relabel scope env).names.lookup x = some .cell ∨ (relabel scope env).names.lookup x = some .free := by
  unfold relabel
  show List.lookup x (scope.names.map _) = _ ∨ List.lookup x (scope.names.map _) = _
  generalize scope.names = ns at h
  induction ns with
  | nil => simp at h
  | cons p r ih =>
    obtain ⟨n, k0⟩ := p
    rw [List.map_cons]
    by_cases e : (x == n) = true
    · rw [List.lookup_cons, e] at h
      have h' : k0 = .free := by simpa using h
      subst h'
      by_cases c : (NameKind.free == NameKind.free && env.scope.kind == .function && env.kindOf n == some .cell) = true
      · left
        simp only [c, if_true]
        rw [List.lookup_cons, e]
      · right
        simp only [c, Bool.false_eq_true, if_false]
        rw [List.lookup_cons, e]
    · have e2 : (x == n) = false := by simpa using e
      rw [List.lookup_cons, e2] at h
      have h3 := ih h
      by_cases c : (k0 == NameKind.free && env.scope.kind == .function && env.kindOf n == some .cell) = true
      · simp only [c, if_true]
        rw [List.lookup_cons, e2]
        exact h3
      · simp only [c, Bool.false_eq_true, if_false]
        rw [List.lookup_cons, e2]
        exact h3

noncomputable def PIfs (X : Cx) (ifs : List Expr) (t : TT) : Prop :=
  ∀ (pins : List (Addr × Obj)) (s : Shared) (σ : St) (H : Hp) (Q : Bool → Hp → Prop), Inv X pins σ H s → t σ H Q →
    wpAny (model X.prog X.w) X.A (forIn ifs true fun c r => if r = true then do let ok ← isTrue c X.env (eval c X.env); pure (ForInStep.yield ok) else pure (ForInStep.yield r)) (TP X pins σ Q) X.xe s
noncomputable def tYes : TT := fun _ H Q => Q true H
theorem pifs_nil {X : Cx} : PIfs X [] tYes := fun _ _ _ H _ I h => wpAny_tests_nil ⟨H, I, h⟩
theorem pifs_one {X : Cx} {c : Expr} {t : TT} (h : PT X c t) : PIfs X [c] t := fun pins s σ H Q I hw => wpAny_tests_one (h pins s σ H Q I hw)

theorem compLoop_any {prog : Program} {w : World} {A : Around} {R : Result → Shared → Prop} {s : Shared} {elt target iter : Expr} {ifs : List Expr} {scope : Scope} {pos : Pos} {it acc : Value} {env : Env} (I : Nat → Shared → Prop)
    (turn : ∀ n s, I n s → wpAny (model prog w) A (pyNext it) (fun r s1 => match r with
      | none => R (.ok .next) s1
      | some v => wpAny (model prog w) A (letOwnedTupleGo target it v) (fun _ s2 => wpAny (model prog w) A (assign target env v) (fun _ s3 =>
          wpAny (model prog w) A (forIn ifs true fun c r => if r = true then do let ok ← isTrue c env (eval c env); pure (ForInStep.yield ok) else pure (ForInStep.yield r)) (fun ok s4 =>
            if ok = true then wpAny (model prog w) A (eval elt env) (fun x s5 =>
              wpAny (model prog w) A (call (.builtin "list.append") [acc, x]) (fun _ s6 => ∃ m, m < n ∧ I m s6) (fun _ _ => False) s5) (fun _ _ => False) s4
            else ∃ m, m < n ∧ I m s4) (fun _ _ => False) s3) (fun _ _ => False) s2) (fun _ _ => False) s1) (fun _ _ => False) s)
    (n : Nat) (h : I n s) : codeAny (model prog w) A (.compLoop (.ListComp elt [⟨target, iter, ifs, 0⟩] scope pos) 0 it acc env) R s := by
  refine codeAny_loop rfl I (fun n s hI => ?_) n h
  show wpAny _ A ((compTurn (.ListComp elt [⟨target, iter, ifs, 0⟩] scope pos) 0 it acc env).onRaise (fun x => do noteFrame x env; theTreesLotGoes x)) _ _ s
  refine wpAny_noted ?_
  rw [compTurn_list]
  have no : ∀ {E : Value → Shared → Prop}, ∀ e s', (fun (_ : Value) (_ : Shared) => False) e s' → E e s' := fun _ _ z => False.elim z
  refine wpAny_bind (wpAny_standAt (wpAny_bind (wpAny_mono (turn n s hI) (fun r s1 h1 => ?_) no)))
  cases r with
  | none => exact wpAny_pure h1
  | some v =>
    refine wpAny_bind (wpAny_mono h1 (fun _ s2 h2 => ?_) no)
    refine wpAny_bind (wpAny_mono h2 (fun _ s3 h3 => wpAny_bind (wpAny_mono h3 (fun ok s4 h4 => ?_) no)) no)
    cases ok with
    | false => exact wpAny_pure ⟨rfl, h4⟩
    | true =>
      exact wpAny_bind (wpAny_bind (wpAny_mono h4 (fun x s5 h5 => wpAny_bind (wpAny_mono h5 (fun _ s6 h6 => wpAny_pure (wpAny_pure ⟨rfl, h6⟩)) no)) no))

noncomputable def blockSt (tgs : List Str) (cap : List (Str × Nat)) (σ : St) : St := tgs.map (fun _ => none) ++ cap.map fun c => (σ[c.2]?).join
noncomputable def tComp (wi : TI) (g : TG) (tt : TT) (te : TE) (f : St → St) : TE := fun σ H Q => wi σ H fun J H1 => ∀ D, H1 D = none → ∃ W : Nat → Nat → Hp → List V → Prop, (∃ m, W 0 m (upd H1 D (.lst [])) []) ∧
  ∀ i m H ys, W i m H ys → H D = some (.lst ys) ∧ ((J.stop i H ∧ Q (.ref D) H) ∨ (J.go i H ∧ ∀ x H', J.yld i H x H' → g x (f σ) H' fun σ2 H2 => wk (f σ) σ2 ∧ tt σ2 H2 fun b H3 =>
    if b = true then te σ2 H3 fun v H4 => H4 D = some (.lst ys) ∧ ys.length < sizeLine ∧ ∃ m', m' < m ∧ W (i + 1) m' (upd H4 D (.lst (ys ++ [v]))) (ys ++ [v])
    else ∃ m', m' < m ∧ W (i + 1) m' H3 ys))

structure BlockOk (X : Cx) (scope : Scope) (tgs : List Str) (cap : List (Str × Nat)) : Prop where
  kind : scope.kind = .function
  nocell : (scope.names.all fun y => !(y.2 == NameKind.cell)) = true
  names : (scope.names.all fun y => !(y.2 == NameKind.local) || (scope.names.lookup y.1 == some .local)) = true
  free : (scope.names.all fun y => !(y.2 == NameKind.free) || (X.env.scope.names.lookup y.1 == some .cell) || (X.env.scope.names.lookup y.1 == some .free)) = true
  caps : (cap.all fun c => decide (X.N[c.2]? = some c.1) && (scope.names.lookup c.1 == some .free) && (decide (X.env.scope.names.lookup c.1 = some .cell) || decide (X.env.scope.names.lookup c.1 = some .free))) = true
  tgl : (tgs.all fun x => (scope.names.lookup x == some .local)) = true
section
variable {X : Cx} {scope : Scope} {tgs : List Str} {cap : List (Str × Nat)}
theorem BlockOk.cellAt (B : BlockOk X scope tgs cap) (ok : X.Ok) : ∀ y ∈ scope.names, y.2 = .free → ∃ c, X.env.cells.lookup y.1 = some c := fun y hy hk => by
  have q := List.all_eq_true.mp B.free y hy
  rw [hk] at q
  refine ok.has y.1 ?_
  simp only [beq_self_eq_true, Bool.not_true, Bool.false_or, Bool.or_eq_true, beq_iff_eq] at q
  exact q
theorem BlockOk.noc (B : BlockOk X scope tgs cap) : ∀ y ∈ scope.names, y.2 ≠ .cell := fun y hy hk => by
  have q := List.all_eq_true.mp B.nocell y hy
  rw [hk] at q
  simp at q
theorem BlockOk.locs (B : BlockOk X scope tgs cap) : ∀ y ∈ scope.names, y.2 = .local → scope.names.lookup y.1 = some .local := fun y hy hk => by
  have q := List.all_eq_true.mp B.names y hy
  rw [hk] at q
  simpa using q

theorem Inv.enter {pins : List (Addr × Obj)} {σ : St} {H : Hp} {s : Shared} {h1 : Heap} {tk : Nat} {fp : List Addr} (B : BlockOk X scope tgs cap) (I : Inv X pins σ H s) (hfp : ∀ b ∈ fp, FpOk X pins H b) (hlt : ∀ b ∈ fp, b < s.heap.objs.size)
    (hns : h1.Ns s.heap.objs.size (fun _ => none)) (old : ∀ b o, s.heap.get? b = some o → h1.get? b = some o) :
    Inv (X.block (tgs ++ cap.map (·.1)) scope s.heap.objs.size s H fp) [] (blockSt tgs cap σ) H { s with heap := h1, toks := tk } := by
  have cellsIn : ∀ x c, (clsOf X.env scope.names []).lookup x = some c → X.env.cells.lookup x = some c := fun x c e => cls_look e (B.cellAt I.ok)
  have kindIn : ∀ x, ((relabel scope X.env).names.lookup x = some .cell ∨ (relabel scope X.env).names.lookup x = some .free) → (x, NameKind.free) ∈ scope.names := fun x hx => by
    have go : ∀ k, (relabel scope X.env).names.lookup x = some k → (k = .cell ∨ k = .free) → (x, NameKind.free) ∈ scope.names := fun k hk hc => by
      obtain ⟨k', e1, e2⟩ := relabel_kind hk
      have m := lookup_mem e1
      rcases e2 with e2 | ⟨e2, _⟩
      · subst e2
        rcases hc with z | z
        · exact absurd z (B.noc _ m)
        · subst z; exact m
      · subst e2; exact m
    rcases hx with h | h
    · exact go _ h (.inl rfl)
    · exact go _ h (.inr rfl)
  have nocl : ∀ x c, X.env.cells.lookup x = some c → c ≠ s.heap.objs.size := fun x c e => by
    obtain ⟨v, q⟩ := I.cell x c e
    exact Nat.ne_of_lt q.lt
  refine ⟨⟨I.ok.mod, ?_, I.ok.glob, I.ok.blt, Nat.le_refl _, fun x y c e1 e2 => I.ok.inj x y c (cellsIn x c e1) (cellsIn y c e2), fun x hx => ?_, fun x c hf _ => absurd (show false = true from hf) Bool.false_ne_true, I.ok.hd, I.ok.frames, .inl rfl,
    fun b hb => ⟨Nat.ne_of_lt (hlt b hb), fun x c e => ?_⟩, I.bs, Nat.le_trans I.ok.bsz I.sz, fun b o e hb => ?_, fun b hb hf => ?_, I.stack, I.stkFree⟩,
    rfl, I.bare, Un.kept old, ⟨_, hns, fun i x v h2 h3 h4 => ?_⟩, fun x c e => ?_, ?_, fun x c e => I.freeC x c (cellsIn x c e), fun p hp => absurd (show p ∈ ([] : List (Addr × Obj)) from hp) (by simp), I.hok.kept old, ?_⟩
  · exact B.kind
  · exact cls_has (kindIn x hx)
  · exact (hfp b hb).2.2.2.2.1 x c (cellsIn x c e)
  · -- no object of the base is an iterator of ours
    rcases (hfp b hb).2.2.2.1 with z | z
    · exact I.ok.noex b o e z
    · have q := I.ok.bs b o e
      exact absurd (Nat.lt_of_lt_of_le (Heap.lt_size q.1) z) (Nat.lt_irrefl _)
  · have hf' : b ∈ frs X.stack := hf
    rcases List.mem_cons.mp (I.stkSub b hf') with z | z
    · exact (hfp b hb).2.1 z
    · exact (hfp b hb).2.2.1 z
  · -- a name that is known: one of the captured ones
    have hi : tgs.length ≤ i := by
      by_cases hl : i < tgs.length
      · exfalso
        unfold blockSt at h3
        rw [List.getElem?_append_left (by simpa using hl), List.getElem?_map] at h3
        cases e : tgs[i]? with
        | none => rw [e] at h3; cases h3
        | some z => rw [e] at h3; cases h3
      · omega
    unfold blockSt at h3
    rw [List.getElem?_append_right (by simpa using hi), List.length_map, List.getElem?_map] at h3
    have h2' : (tgs ++ cap.map (·.1))[i]? = some x := h2
    rw [List.getElem?_append_right hi, List.getElem?_map] at h2'
    cases e : cap[i - tgs.length]? with
    | none => rw [e] at h2'; cases h2'
    | some c =>
      rw [e] at h2' h3
      have hx : c.1 = x := by simpa using h2'
      have hv : (σ[c.2]?).join = some v := by simpa using h3
      have hm : c ∈ cap := List.mem_of_getElem? e
      have q := List.all_eq_true.mp B.caps c hm
      simp only [Bool.and_eq_true, decide_eq_true_eq, beq_iff_eq, Bool.or_eq_true] at q
      obtain ⟨⟨q1, q2⟩, q3⟩ := q
      have hσ : σ[c.2]? = some (some v) := by
        cases z : σ[c.2]? with
        | none => rw [z] at hv; cases hv
        | some o =>
          rw [z] at hv
          have : o = some v := by simpa using hv
          rw [this]
      obtain ⟨m, _, hl⟩ := I.loc
      obtain ⟨u, r, l⟩ := hl c.2 c.1 v q1 hσ (by
        rcases q3 with z | z
        · exact .inr (.inl z)
        · exact .inr (.inr z))
      subst hx
      refine ⟨u, r, .inr ⟨relabel_free q2, ?_⟩⟩
      have nl : ¬ X.env.kindOf c.1 = some .local := fun z => by
        rcases q3 with y | y
        · have : X.env.kindOf c.1 = some .cell := y
          rw [this] at z; cases z
        · have : X.env.kindOf c.1 = some .free := y
          rw [this] at z; cases z
      rcases l with ⟨l1, _⟩ | ⟨_, d, l2, l3⟩
      · exact absurd l1 nl
      · obtain ⟨d', e'⟩ := cls_has (env := X.env) (lookup_mem q2)
        have : d = d' := Option.some.inj (l2.symm.trans (cellsIn _ _ e'))
        subst this
        obtain ⟨oc, ho, hd⟩ := l3
        exact ⟨d, e', oc, old d oc ho, hd⟩
  · obtain ⟨v, oc, ho, hd⟩ := I.cell x c (cellsIn x c e)
    exact ⟨v, oc, old c oc ho, hd⟩
  · exact I.hok.fresh (Nat.le_refl _)
  · unfold blockSt
    show _ = (tgs ++ cap.map (·.1)).length
    simp

theorem Inv.leave {pins : List (Addr × Obj)} {σ σ' : St} {H H' : Hp} {s s' : Shared} {h2 : Heap} {fp : List Addr} {N : List Str} (I : Inv X pins σ H s) (hfp : ∀ b ∈ fp, FpOk X pins H b)
    (J : Inv (X.block N scope s.heap.objs.size s H fp) [] σ' H' s') (hs : Heap.SameBut s.heap.objs.size s'.heap h2) : Inv X pins σ H' { s' with heap := h2 } := by
  have u : Un (frs X.stack) fp H H' s.heap s'.heap := J.base
  have ne : ∀ b o, s.heap.get? b = some o → b ≠ s.heap.objs.size := fun b o e => Nat.ne_of_lt (Heap.lt_size e)
  have hf : H' s.heap.objs.size = none := J.free
  have k : ∀ b o, b ≠ s.heap.objs.size → s'.heap.get? b = some o → h2.get? b = some o := fun b o hb e => (hs.2 b hb).trans e
  have u2 : Un (frs X.stack) fp H H' s.heap h2 :=
    ⟨fun b o e n h1 h3 => k b o (ne b o e) (u.keep b o e n h1 h3), fun b o e n h1 h3 => let ⟨sl, q⟩ := u.slot b o e n h1 h3; ⟨sl, k b _ (ne b o e) q⟩, u.free, fun b o e h3 => let ⟨o', q⟩ := u.there b o e h3; ⟨o', k b o' (ne b o e) q⟩, u.tups, u.frzs, u.tbls⟩
  have hok : HOk X.prog X.w H' h2 := fun b ob e => (J.hok b ob e).stay (fun c v hc q => k c v (by
    rcases hc with z | z
    · subst z
      intro y
      rw [y, hf] at e; cases e
    · intro y
      rw [y, hf] at z; cases z) q) (fun _ q => q) fun _ _ q => q
  exact Inv.call' I (s' := { s' with heap := h2 }) J.os u2 hok J.bare fun b hb => by
    obtain ⟨f0, f1, f2, f3, f4, f5⟩ := hfp b hb
    exact ⟨f3, f1, f4, f5⟩

theorem pe_lc {elt tg iter : Expr} {ifs : List Expr} {pos : Pos} {wi : TI} {g : TG} {tt : TT} {te : TE} (hc : X.calm = true) (B : BlockOk X scope tgs cap) (hi : PI X tg iter wi)
    (hg : ∀ C s H fp, PG (X.block (tgs ++ cap.map (·.1)) scope C s H fp) tg g) (ht : ∀ C s H fp, PIfs (X.block (tgs ++ cap.map (·.1)) scope C s H fp) ifs tt) (he : ∀ C s H fp, PE (X.block (tgs ++ cap.map (·.1)) scope C s H fp) elt te)
    (hs : ∀ x, foldedSetIterable iter X.env x = pure x := by intro _; rfl) : PE X (.ListComp elt [⟨tg, iter, ifs, 0⟩] scope pos) (tComp wi g tt te (blockSt tgs cap)) := by
  intro pins s σ H Q I h
  rw [eval_ListComp]
  refine wpAny_comprehension_free (use := none) rfl hs (closure_eq (B.cellAt I.ok)) B.kind B.locs (thn (hi pins s σ H _ I h) fun v s1 h1 => thn h1 fun itv s2 h2 => ?_)
  obtain ⟨it, fp, tn, J, H2, e, I2, T, st2, f2, q⟩ := h2
  subst e
  have lt2 : ∀ b ∈ fp, b < s2.heap.objs.size := fun b hb => let ⟨o, e, _⟩ := T.obj _ _ st2 b hb; Heap.lt_size e
  have hD : H2 s2.heap.objs.size = none := I2.hok.fresh (Nat.le_refl _)
  obtain ⟨W, ⟨m0, w0⟩, turn⟩ := q s2.heap.objs.size hD
  refine wpAny_newObj_type ?_
  have I3 : Inv X pins σ (upd H2 s2.heap.objs.size (.lst [])) { s2 with heap := s2.heap.push { cls := .type "list", dict := none, data := .seq ([] : List Value).toArray } } := I2.lnew (t' := s2.toks) (ys := []) (its := []) .nil (Nat.zero_le _)
  have st3 : tn 0 (s2.heap.push { cls := .type "list", dict := none, data := .seq ([] : List Value).toArray }) := T.keep _ _ _ st2 fun b _ o e => Heap.get?_push_of_some _ e
  have nD : ∀ b ∈ fp, b ≠ s2.heap.objs.size := fun b hb => Nat.ne_of_lt (lt2 b hb)
  have f3 : ∀ b ∈ fp, FpOk X pins (upd H2 s2.heap.objs.size (.lst [])) b := fun b hb => ⟨by rw [upd_ne (nD b hb)]; exact (f2 b hb).1, (f2 b hb).2⟩
  generalize hs3 : ({ s2 with heap := s2.heap.push { cls := .type "list", dict := none, data := .seq ([] : List Value).toArray } } : Shared) = s3 at I3 st3 ⊢
  have st3' : tn 0 s3.heap := by rw [← hs3]; exact st3
  have lt3 : ∀ b ∈ fp, b < s3.heap.objs.size := fun b hb => let ⟨o, e, _⟩ := T.obj _ _ st3' b hb; Heap.lt_size e
  generalize hH3 : upd H2 s2.heap.objs.size (.lst []) = H3 at I3 f3 w0
  generalize s2.heap.objs.size = D at *
  refine wpAny_newFunctionEnv B.noc (by intro y hy; simp at hy) (fun h1 hns hsb => ?_) B.kind
  have old : ∀ b o, s3.heap.get? b = some o → h1.get? b = some o := fun b o e => hsb.extBut b o (Nat.ne_of_lt (Heap.lt_size e)) (Heap.get?_push_of_some _ e)
  have I4 := Inv.enter (tk := s3.toks + ([] : List (Str × Value)).length) (h1 := h1) B I3 f3 lt3 hns old
  have st4 : tn 0 h1 := T.keep _ _ _ st3' fun b _ o e => old b o e
  have fpB : ∀ {H' : Hp}, (∀ b ∈ fp, H' b = none) → ∀ b ∈ fp, FpOk (X.block (tgs ++ cap.map (·.1)) scope s3.heap.objs.size s3 H3 fp) [] H' b := fun {H'} hn b hb =>
    ⟨hn b hb, Nat.ne_of_lt (lt3 b hb), I4.ok.exfs b hb, .inl hb, fun x c e => (I4.ok.exf b hb).2 x c e, fun p hp => absurd (show p ∈ ([] : List (Addr × Obj)) from hp) (by simp)⟩
  have loop : codeAny (model X.prog X.w) X.A (.compLoop (.ListComp elt [⟨tg, iter, ifs, 0⟩] scope pos) 0 (.ref it) (.ref D) (compEnvC scope (clsOf X.env scope.names []) s3.heap.objs.size X.env))
      (compPost (model X.prog X.w) X.A X.xe none (EP X pins σ Q) (.ref D) s3.heap.objs.size) { s3 with heap := h1, toks := s3.toks + ([] : List (Str × Value)).length } := by
    refine compLoop_any (fun n s' => ∃ i H' ys, Inv (X.block (tgs ++ cap.map (·.1)) scope s3.heap.objs.size s3 H3 fp) [] (blockSt tgs cap σ) H' s' ∧ tn i s'.heap ∧ (∀ b ∈ fp, H' b = none) ∧ W i n H' ys) ?_ m0 ⟨0, H3, [], I4, st4, fun b hb => (f3 b hb).1, w0⟩
    rintro n s5 ⟨i, H5, ys, I5, st5, fr5, w5⟩
    obtain ⟨hl, ht5⟩ := turn i n H5 ys w5
    rcases ht5 with ⟨stop, qd⟩ | ⟨go, step⟩
    · refine thn (T.done (X.block (tgs ++ cap.map (·.1)) scope s3.heap.objs.size s3 H3 fp) rfl rfl rfl hc i [] s5 _ H5 _ I5 (fpB fr5) st5 stop) fun r s6 ⟨hr, I6⟩ => ?_
      subst hr
      obtain ⟨m6, n6, _⟩ := I6.loc
      exact ⟨m6, n6, fun h' hs' => ⟨.ref D, H5, Inv.leave I3 f3 I6 hs', rfl, qd⟩⟩
    · refine thn (T.item (X.block (tgs ++ cap.map (·.1)) scope s3.heap.objs.size s3 H3 fp) rfl rfl rfl hc i [] s5 _ H5 _ I5 (fpB fr5) st5 go) fun r s6 ⟨u, hr, h6⟩ => ?_
      subst hr
      refine thn h6 fun _ s7 ⟨x, H7, I7, r7, y7, st7, fr7⟩ => ?_
      have I7' := I7.pinned (fpB fr7) (T.obj _ _ st7)
      have again : ∀ {σ8 : St} {H8 : Hp} {s8 : Shared} {ys8 : List V}, Inv (X.block (tgs ++ cap.map (·.1)) scope s3.heap.objs.size s3 H3 fp) ([] ++ pinsAt fp s7.heap) σ8 H8 s8 → wk (blockSt tgs cap σ) σ8 → (∃ m', m' < n ∧ W (i + 1) m' H8 ys8) →
          ∃ m, m < n ∧ ∃ i H' ys, Inv (X.block (tgs ++ cap.map (·.1)) scope s3.heap.objs.size s3 H3 fp) [] (blockSt tgs cap σ) H' s8 ∧ tn i s8.heap ∧ (∀ b ∈ fp, H' b = none) ∧ W i m H' ys := fun {σ8 H8 s8 ys8} I8 k8 ⟨m', hm, w8⟩ => by
        refine ⟨m', hm, i + 1, H8, ys8, I8.unpinned.weak (wk_len k8) (wk_get k8), T.keep _ _ _ st7 fun b hb o e => (I8.pin (b, o) (List.mem_append_right _ (List.mem_append_right _ (mem_pinsAt hb e)))).1, fun b hb => ?_, w8⟩
        obtain ⟨o, e, d⟩ := T.obj _ _ st7 b hb
        exact (I8.pin (b, o) (List.mem_append_right _ (List.mem_append_right _ (mem_pinsAt hb e)))).2.1
      refine thn (hg _ _ _ _ _ s7 _ H7 x u _ I7' r7 (step x H7 y7)) fun _ s8 ⟨σ8, H8, I8, k8, q8⟩ => ?_
      refine thn (ht _ _ _ _ _ s8 σ8 H8 _ I8 q8) fun ok s9 ⟨H9, I9, q9⟩ => ?_
      cases ok with
      | false =>
        rw [if_neg Bool.false_ne_true] at q9 ⊢
        exact again I9 k8 q9
      | true =>
        rw [if_pos rfl] at q9 ⊢
        refine thn (he _ _ _ _ _ s9 σ8 H9 _ I9 q9) fun y sA ⟨yv, HA, IA, rA, hA, zA, qA⟩ => ?_
        exact thn (mt_append _ sA σ8 HA (.ref D) [yv] (.ref D) [y] (fun v H' => v = .non ∧ ∃ m', m' < n ∧ W (i + 1) m' H' (ys ++ [yv])) IA rfl (.cons rA .nil) ⟨D, ys, yv, rfl, rfl, hA, zA, rfl, qA⟩) fun _ sB ⟨_, HB, IB, _, _, qB⟩ => again IB k8 qB
  exact codeAny_compStart_list loop (T.self _ 0 _ _ _ st4 loop)
end
end L2
set_option Elab.async false
set_option linter.all false
set_option maxRecDepth 100000
set_option maxHeartbeats 4000000
namespace L2
open PySem PySem.Spec PyProof.Rows

noncomputable def Itf (n : Nat) (f : Nat → V) : It := ⟨fun i _ => i < n, fun i H x H' => H' = H ∧ x = f i, fun i _ => i = n⟩
theorem turn_walks {P : Program} {w : World} {K : PySem.W.Frag} {x : Str} {px : Pos} {it : Addr} {n : Nat} {f : Nat → V} {Pv : Nat → Value → Prop} {St : Nat → Heap → Prop}
    (W : ∀ A : Around, A.handled = none → Walks P w A it [it] [it] n Pv St) (hP : ∀ i v, Pv i v → RelV (f i) v) (hobj : ∀ i h, St i h → ∃ o, h.get? it = some o ∧ ∀ v, o.data ≠ .cell v)
    (hfr : ∀ i h h', St i h → (∀ o, h.get? it = some o → h'.get? it = some o) → St i h')
    (hself : ∀ (A : Around) (i : Nat) (s : Shared) (Q : Value → Shared → Prop) (E : Value → Shared → Prop), St i s.heap → Q (.ref it) s → wpAny (model P w) A (pyIter (.ref it)) Q E s) :
    Turn P w K (.Name x px) (Itf n f) [it] it St where
  mem := by simp
  obj := fun i h st b hb => by
    have e : b = it := by simpa using hb
    subst e
    exact hobj i h st
  keep := fun i h h' st k => hfr i h h' st fun o e => k it (by simp) o e
  item := by
    intro X hP' hw hK hc i pins s σ H E I hf st hg
    subst hP' hw hK
    obtain ⟨f0, f1, f2, f3, f4, f5⟩ := hf it (by simp)
    refine (W X.A (I.ok.hd hc)).item i s _ _ hg st fun v h' tk hv st' kk => ?_
    have I1 : Inv X pins σ H { s with heap := h', toks := tk } := I.turned (fun b o hb e => kk b o (by simpa using hb) e) f0 f1 f3 f4 f5
    refine ⟨v, rfl, wpAny_of_eq (a := ()) (by rfl) ⟨f i, H, I1, hP i v hv, ⟨rfl, rfl⟩, st', fun b hb => (hf b hb).1⟩⟩
  done := by
    intro X hP' hw hK hc i pins s σ H E I hf st hg
    subst hP' hw hK
    obtain ⟨f0, f1, f2, f3, f4, f5⟩ := hf it (by simp)
    have e : i = n := hg
    subst e
    exact (W X.A (I.ok.hd hc)).done s _ _ st fun h' tk kk => ⟨rfl, I.turned (fun b o hb e => kk b o (by simpa using hb) e) f0 f1 f3 f4 f5⟩
  self := fun A i s Q E st h => hself A i s Q E st h

noncomputable def signV (z : Str) (i : Nat) : V := .str ⟨#[z.cps.getD i 0]⟩
theorem signAt_rel {z : Str} {i : Nat} {v : Value} (h : SignAt z i v) : RelV (signV z i) v := by
  obtain ⟨c, u, h1, h2⟩ := h
  subst h2
  refine ⟨u, ?_⟩
  have : z.cps.getD i 0 = c := by rw [Array.getD_eq_getD_getElem?, h1]; rfl
  rw [this]
theorem turn_str {P : Program} {w : World} {K : PySem.W.Frag} {x : Str} {px : Pos} {it : Addr} {z : Str} {t : Tok} {ty : String} (hty : ty = "str_ascii_iterator" ∨ ty = "str_iterator") :
    Turn P w K (.Name x px) (Itf z.cps.size (signV z)) [it] it (fun i h => h.IsStrIter it ty z t i) := by
  rcases hty with e | e
  · subst e
    exact turn_walks (fun A hA => Walks.strAscii hA it z t) (fun i v h => signAt_rel h) (fun i h st => let ⟨o, e, _, d⟩ := st; ⟨o, e, fun v q => by rw [d] at q; cases q⟩)
      (fun i h h' st k => let ⟨o, e, r⟩ := st; ⟨o, k o e, r⟩) fun A i s Q E st q => wpAny_pyIter_striter_ascii st q
  · subst e
    exact turn_walks (fun A hA => Walks.strWide hA it z t) (fun i v h => signAt_rel h) (fun i h st => let ⟨o, e, _, d⟩ := st; ⟨o, e, fun v q => by rw [d] at q; cases q⟩)
      (fun i h h' st k => let ⟨o, e, r⟩ := st; ⟨o, k o e, r⟩) fun A i s Q E st q => wpAny_pyIter_striter_wide st q
section
variable {X : Cx} {x : Str} {px : Pos}
noncomputable def iStr (tl : TE) : TI := fun σ H R => tl σ H fun v H1 => ∃ z : Str, v = .str z ∧ R (Itf z.cps.size (signV z)) H1
theorem pi_str {l : Expr} {tl : TE} (hl : PE X l tl) : PI X (.Name x px) l (iStr tl) := by
  intro pins s σ H R I h
  refine thn (hl pins s σ H _ I h) fun v s1 ⟨y, H1, I1, r1, q1⟩ => ?_
  obtain ⟨z, e, q⟩ := q1
  subst e
  obtain ⟨t, e⟩ := r1
  subst e
  have fin : ∀ ty : String, (ty = "str_ascii_iterator" ∨ ty = "str_iterator") → PIE X pins σ (.Name x px) R (.ref s1.heap.objs.size) { s1 with heap := s1.heap.push { cls := .type ty, data := .fields #[.str z t, .int 0 0] } } := fun ty hty => by
    refine ⟨s1.heap.objs.size, [s1.heap.objs.size], _, _, H1, rfl, I1.kept (t' := s1.toks) fun b o e => Heap.get?_push_of_some _ e, turn_str (t := t) hty, ⟨_, Heap.get?_push_size _ rfl, rfl, rfl⟩, fun b hb => ?_, q⟩
    have e : b = s1.heap.objs.size := by simpa using hb
    subst e
    exact I1.fpOk (Nat.le_refl _) (I1.hok.fresh (Nat.le_refl _))
  cases ha : z.cps.all (· < 128) with
  | false => exact wpAny_pyIter_wide ha (fin _ (.inr rfl))
  | true => exact wpAny_pyIter_ascii ha (fin _ (.inl rfl))
end

section
variable {X : Cx}
noncomputable def rSlS : V → Option Int → Option Int → Hp → VK → Prop := fun x lo hi H Q => ∃ z : Str, x = .str z ∧ z.length ≤ sizeLine ∧ Q (.str (Txt.slice z lo hi)) H
theorem sl_str : SlR X rSlS := by
  intro pins s σ H x v vl vu lo hi sl Q I rx hs pl pu h
  obtain ⟨z, e, hz, q⟩ := h
  subst e
  obtain ⟨t, e⟩ := rx
  subst e
  refine ⟨"str", _, F.slot_str_getitem.lookup, typeIs_str _ _ _, ?_⟩
  have fin : ∀ (t' : Tok) (k : Nat), EP X pins σ Q (.str (Txt.slice z lo hi) t') { s with toks := k } := fun t' k => ⟨.str _, H, I.tok k, ⟨t', rfl⟩, q⟩
  cases pl with
  | none =>
    cases pu with
    | none => exact wpAny_getItem_str_slice (l := none) (u := none) (st := none) hs rfl (post_val_or_str ⟨Nat.le_trans (Txt.slice_le z _ _) hz, fin⟩)
    | int j uj => exact wpAny_getItem_str_slice (l := none) (u := some (j, uj)) (st := none) hs rfl (post_val_or_str ⟨Nat.le_trans (Txt.slice_le z _ _) hz, fin⟩)
  | int i ui =>
    cases pu with
    | none => exact wpAny_getItem_str_slice (l := some (i, ui)) (u := none) (st := none) hs rfl (post_val_or_str ⟨Nat.le_trans (Txt.slice_le z _ _) hz, fin⟩)
    | int j uj => exact wpAny_getItem_str_slice (l := some (i, ui)) (u := some (j, uj)) (st := none) hs rfl (post_val_or_str ⟨Nat.le_trans (Txt.slice_le z _ _) hz, fin⟩)

theorem strsAre_of : ∀ {ys : List Str} {us : List Value}, Vals (ys.map V.str) us → StrsAre us ys
  | [], _, r => by
    rw [List.map_nil] at r; cases r; exact .nil
  | y :: ys, _, r => by
    rw [List.map_cons] at r
    cases r with
    | cons r1 r2 =>
      obtain ⟨t, e⟩ := r1
      subst e
      exact .cons y t (strsAre_of r2)
noncomputable def rJoin (K : PySem.W.Frag) : V → List V → Hp → VK → Prop := fun x vs H Q => ∃ (z : Str) (l : Addr) (ys : List Str), x = .str z ∧ vs = [.ref l] ∧ SqL K H l (ys.map V.str) ∧ (ys.map (·.length)).sum + ys.length * z.length ≤ 16777216 ∧ Q (.str (Txt.join z ys)) H
theorem mt_join : MtR X "str.join" (rJoin X.K) := by
  intro pins s σ H x vs v us Q I rx rv h
  obtain ⟨z, l, ys, e1, e2, hl, hz, q⟩ := h
  subst e1 e2
  obtain ⟨t, e⟩ := rx
  subst e
  obtain ⟨u, e, ru⟩ := rv.one
  subst e
  cases ru
  obtain ⟨its, r, pl, _⟩ := I.list hl
  exact join_list pl.isList (by simpa using strsAre_of r) hz fun t' k => ⟨.str _, H, I.tok k, ⟨t', rfl⟩, q⟩
theorem glued_nil (ys : List Str) : (Txt.join Str.empty ys).cps.toList = (ys.map (·.cps.toList)).flatten := by
  unfold Txt.join
  rw [PySem.StrLaws.glued_eq_join]
  induction ys with
  | nil => rfl
  | cons y r ih =>
    cases r with
    | nil => simp [Str.join]
    | cons y2 r2 =>
      show (y ++ Str.empty ++ Str.join Str.empty (y2 :: r2)).cps.toList = _
      rw [List.map_cons, List.flatten_cons, ← ih]
      show (y.cps ++ Str.empty.cps ++ (Str.join Str.empty (y2 :: r2)).cps).toList = _
      simp [Str.empty]
end
end L2
set_option Elab.async false
set_option linter.all false
set_option maxRecDepth 100000
set_option maxHeartbeats 4000000
namespace L2
open PySem PySem.Spec PyProof.Rows
inductive EqD (K : PySem.W.Frag) (H : Hp) : Nat → V → V → Bool → Prop
  | flat {n : Nat} {x y : V} : flatV x = true → flatV y = true → EqD K H n x y (eqV x y)
  | same {n : Nat} {a : Addr} : EqD K H n (.ref a) (.ref a) true
  | lists {n : Nat} {a b : Addr} {xs ys : List V} {e : Nat → Bool} : SqL K H a xs → SqL K H b ys → xs.length = ys.length → (∀ (j : Nat) x y, xs[j]? = some x → ys[j]? = some y → EqD K H n x y (e j)) → a ≠ b →
      EqD K H (n + 1) (.ref a) (.ref b) ((List.range xs.length).all e)
  | tups {n : Nat} {a b : Addr} {xs ys : List V} {e : Nat → Bool} : SqT K H a xs → SqT K H b ys → (∀ (j : Nat) x y, xs[j]? = some x → ys[j]? = some y → EqD K H n x y (e j)) → a ≠ b →
      EqD K H (n + 1) (.ref a) (.ref b) ((List.range (min xs.length ys.length)).all e && xs.length == ys.length)
theorem EqD.at {X : Cx} {pins : List (Addr × Obj)} {σ : St} {H : Hp} {s : Shared} (I : Inv X pins σ H s) {n : Nat} {x y : V} {b : Bool} (h : EqD X.K H n x y b) :
    ∀ {A : Around} {u v : Value}, A.units + n < cLine → RelV x u → RelV y v → SeqAt.EqAt A s u v b := by
  induction h with
  | flat fx fy => intro A u v _ rx ry; exact eqAt_V rx ry fx fy
  | same =>
    intro A u v _ rx ry
    cases rx
    cases ry
    exact SeqAt.EqAt.same _
  | @lists n a c xs ys e ha hb hl hi hne ih =>
    intro A u v hu rx ry
    cases rx
    cases ry
    obtain ⟨its, r1, p1, _⟩ := I.list ha
    obtain ⟨its2, r2, p2, _⟩ := I.list hb
    have l1 := r1.length
    have l2 := r2.length
    refine SeqAt.EqAt.of_refs hne ?_
    have q := SeqAt.RcAt.lists (A := A) (e := e) p1.isList p2.isList (by rw [List.size_toArray, List.size_toArray]; omega) (by omega) fun j h1 h2 => by
      rw [List.size_toArray] at h1 h2
      have e1 : xs[j]? = some xs[j] := List.getElem?_eq_getElem (by omega)
      have e2 : ys[j]? = some ys[j] := List.getElem?_eq_getElem (by omega)
      obtain ⟨w1, g1, rr1⟩ := r1.get e1
      obtain ⟨w2, g2, rr2⟩ := r2.get e2
      have g1' : its.toArray[j] = w1 := by
        have := (List.getElem?_eq_some_iff.mp g1).2
        simpa using this
      have g2' : its2.toArray[j] = w2 := by
        have := (List.getElem?_eq_some_iff.mp g2).2
        simpa using this
      rw [g1', g2']
      exact ih j _ _ e1 e2 (by show A.units + 1 + n < cLine; omega) rr1 rr2
    rw [List.size_toArray, ← l1] at q
    exact q
  | @tups n a c xs ys e ha hb hi hne ih =>
    intro A u v hu rx ry
    cases rx
    cases ry
    obtain ⟨its, r1, p1, _⟩ := I.tuple ha
    obtain ⟨its2, r2, p2, _⟩ := I.tuple hb
    have l1 := r1.length
    have l2 := r2.length
    refine SeqAt.EqAt.of_refs hne ?_
    have q := SeqAt.RcAt.tuples (A := A) (e := e) (show s.heap.IsTuple a its.toArray from p1) (show s.heap.IsTuple c its2.toArray from p2) (by omega) fun j h1 h2 => by
      rw [List.size_toArray] at h1 h2
      have e1 : xs[j]? = some xs[j] := List.getElem?_eq_getElem (by omega)
      have e2 : ys[j]? = some ys[j] := List.getElem?_eq_getElem (by omega)
      obtain ⟨w1, g1, rr1⟩ := r1.get e1
      obtain ⟨w2, g2, rr2⟩ := r2.get e2
      have g1' : its.toArray[j] = w1 := by
        have := (List.getElem?_eq_some_iff.mp g1).2
        simpa using this
      have g2' : its2.toArray[j] = w2 := by
        have := (List.getElem?_eq_some_iff.mp g2).2
        simpa using this
      rw [g1', g2']
      exact ih j _ _ e1 e2 (by show A.units + 1 + n < cLine; omega) rr1 rr2
    rw [List.size_toArray, List.size_toArray, ← l1, ← l2] at q
    exact q
section
variable {X : Cx}
theorem EqD.items {pins : List (Addr × Obj)} {σ : St} {H : Hp} {s : Shared} (I : Inv X pins σ H s) {n : Nat} {A : Around} (hu : A.units + 1 + n < cLine) {xs ys : List V} {its its2 : List Value} (r1 : Vals xs its) (r2 : Vals ys its2) {e : Nat → Bool}
    (h : ∀ (j : Nat) x y, xs[j]? = some x → ys[j]? = some y → EqD X.K H n x y (e j)) (j : Nat) (h1 : j < its.toArray.size) (h2 : j < its2.toArray.size) : SeqAt.EqAt A.in1 s its.toArray[j] its2.toArray[j] (e j) := by
  have l1 := r1.length
  have l2 := r2.length
  rw [List.size_toArray] at h1 h2
  have e1 : xs[j]? = some xs[j] := List.getElem?_eq_getElem (by omega)
  have e2 : ys[j]? = some ys[j] := List.getElem?_eq_getElem (by omega)
  obtain ⟨w1, g1, rr1⟩ := r1.get e1
  obtain ⟨w2, g2, rr2⟩ := r2.get e2
  have g1' : its.toArray[j] = w1 := by
    have := (List.getElem?_eq_some_iff.mp g1).2
    simpa using this
  have g2' : its2.toArray[j] = w2 := by
    have := (List.getElem?_eq_some_iff.mp g2).2
    simpa using this
  rw [g1', g2']
  exact EqD.at I (h j _ _ e1 e2) (by show A.units + 1 + n < cLine; exact hu) rr1 rr2
noncomputable def rEqL (K : PySem.W.Frag) (neg : Bool) : R2 := fun x y H Q => ∃ a b xs ys e, x = .ref a ∧ y = .ref b ∧ SqL K H a xs ∧ SqL K H b ys ∧ (∀ (j : Nat) x y, xs[j]? = some x → ys[j]? = some y → EqD K H 8 x y (e j)) ∧
  Q (.bl (if neg then !(xs.length == ys.length && (List.range xs.length).all e) else (xs.length == ys.length && (List.range xs.length).all e))) H
noncomputable def rEqT (K : PySem.W.Frag) (neg : Bool) : R2 := fun x y H Q => ∃ a b xs ys e, x = .ref a ∧ y = .ref b ∧ SqT K H a xs ∧ SqT K H b ys ∧ (∀ (j : Nat) x y, xs[j]? = some x → ys[j]? = some y → EqD K H 8 x y (e j)) ∧
  Q (.bl (if neg then !((List.range (min xs.length ys.length)).all e && xs.length == ys.length) else ((List.range (min xs.length ys.length)).all e && xs.length == ys.length))) H
theorem op_eqL (hu : X.A.units + 64 < cLine) : OpR X (compareOp .Eq) (rEqL X.K false) := by
  intro pins s σ H x y v u Q I rx ry h
  obtain ⟨a, b, xs, ys, e, e1, e2, ha, hb, hi, q⟩ := h
  subst e1 e2
  cases rx
  cases ry
  obtain ⟨its, r1, p1, _⟩ := I.list ha
  obtain ⟨its2, r2, p2, _⟩ := I.list hb
  have l1 := r1.length
  have l2 := r2.length
  by_cases hl : xs.length = ys.length
  · refine SeqAt.eq_listAt (e := e) p1.isList p2.isList (by rw [List.size_toArray, List.size_toArray]; omega) (by omega) (EqD.items I (by omega) r1 r2 hi) ⟨.bl _, H, I, rfl, ?_⟩
    rw [List.size_toArray, ← l1]
    have : (xs.length == ys.length) = true := by simpa using hl
    rw [this] at q
    exact q
  · refine SeqAt.eq_list_lengthsAt p1.isList p2.isList (by rw [List.size_toArray, List.size_toArray, ← l1, ← l2]; simpa using hl) (by omega) ⟨.bl _, H, I, rfl, ?_⟩
    have : (xs.length == ys.length) = false := by simpa using hl
    rw [this] at q
    exact q
theorem op_neL (hu : X.A.units + 64 < cLine) : OpR X (compareOp .NotEq) (rEqL X.K true) := by
  intro pins s σ H x y v u Q I rx ry h
  obtain ⟨a, b, xs, ys, e, e1, e2, ha, hb, hi, q⟩ := h
  subst e1 e2
  cases rx
  cases ry
  obtain ⟨its, r1, p1, _⟩ := I.list ha
  obtain ⟨its2, r2, p2, _⟩ := I.list hb
  have l1 := r1.length
  have l2 := r2.length
  by_cases hl : xs.length = ys.length
  · refine SeqAt.RcNeAt.lists (e := e) p1.isList p2.isList (by rw [List.size_toArray, List.size_toArray]; omega) (by omega) (EqD.items I (by omega) r1 r2 hi) _ _ _ _ ⟨.bl _, H, I, rfl, ?_⟩
    rw [List.size_toArray, ← l1]
    have : (xs.length == ys.length) = true := by simpa using hl
    rw [this] at q
    exact q
  · refine SeqAt.RcNeAt.lists_lengths p1.isList p2.isList (by rw [List.size_toArray, List.size_toArray, ← l1, ← l2]; simpa using hl) (by omega) _ _ _ _ ⟨.bl _, H, I, rfl, ?_⟩
    have : (xs.length == ys.length) = false := by simpa using hl
    rw [this] at q
    exact q
theorem op_eqT (hu : X.A.units + 64 < cLine) : OpR X (compareOp .Eq) (rEqT X.K false) := by
  intro pins s σ H x y v u Q I rx ry h
  obtain ⟨a, b, xs, ys, e, e1, e2, ha, hb, hi, q⟩ := h
  subst e1 e2
  cases rx
  cases ry
  obtain ⟨its, r1, p1, _⟩ := I.tuple ha
  obtain ⟨its2, r2, p2, _⟩ := I.tuple hb
  have l1 := r1.length
  have l2 := r2.length
  refine SeqAt.eq_tupleAt (e := e) (show s.heap.IsTuple a its.toArray from p1) (show s.heap.IsTuple b its2.toArray from p2) (by omega) (EqD.items I (by omega) r1 r2 hi) ⟨.bl _, H, I, rfl, ?_⟩
  rw [List.size_toArray, List.size_toArray, ← l1, ← l2]
  exact q
end
end L2
set_option Elab.async false
set_option linter.all false
set_option maxRecDepth 100000
set_option maxHeartbeats 4000000
namespace L2
open PySem PySem.Spec PyProof.Rows
section
variable {X : Cx}
theorem call_isinst : CallR X (.builtin "isinstance") (fun xs H Q => ∃ x T ty b, xs = [x, .ty T] ∧ TyOf X.K H x ty ∧ PySem.W.kitOne X.K ty (.type T) = some b ∧ Q (.bl b) H) := by
  intro pins s σ H xs us Q I r h
  obtain ⟨x, T, ty, b, e, t, k, q⟩ := h
  subst e
  obtain ⟨u1, u2, e, r1, r2⟩ := vals2 r
  subst e
  cases r2
  exact isinst_ok I r1 t k fun tk => ⟨.bl b, H, I.tok tk, rfl, q⟩
theorem kit_same {K : PySem.W.Frag} (T : String) : PySem.W.kitOne K (.type T) (.type T) = some true := by
  unfold PySem.W.kitOne
  rw [if_pos (by simp)]
theorem all_range (bs : List Bool) : (List.range bs.length).all (fun i => bs.getD i false) = bs.all id := by
  rw [Bool.eq_iff_iff]
  simp only [List.all_eq_true, List.mem_range]
  constructor
  · intro h x hx
    obtain ⟨i, hi, e⟩ := List.mem_iff_getElem.mp hx
    have q := h i hi
    rw [List.getD_eq_getElem?_getD, List.getElem?_eq_getElem hi, Option.getD_some, e] at q
    exact q
  · intro h i hi
    rw [List.getD_eq_getElem?_getD, List.getElem?_eq_getElem hi, Option.getD_some]
    exact h _ (List.getElem_mem hi)
theorem call_all (hc : X.calm = true) : CallR X (.builtin "all") (fun xs H Q => ∃ (l : Addr) (bs : List Bool), xs = [.ref l] ∧ SqL X.K H l (bs.map V.bl) ∧ Q (.bl (bs.all id)) H) := by
  intro pins s σ H xs us Q I r h
  obtain ⟨l, bs, e, hl, q⟩ := h
  subst e
  obtain ⟨u, e, ru⟩ := vals1 r
  subst e
  cases ru
  obtain ⟨its, rv, pl, hz⟩ := I.list hl
  have hlen := rv.length
  rw [List.length_map] at hlen
  have ne : l ≠ s.heap.objs.size := by
    obtain ⟨o, ho, _⟩ := pl.isList
    exact Nat.ne_of_lt (Heap.lt_size ho)
  refine call_all_walk (wpAny_pyIter_list pl.isList ?_)
  refine ⟨s.heap.objs.size, _, _, _, _, _, (fun i => bs.getD i false), rfl, Walks.list (show X.A.in1.handled = none from I.ok.hd hc) s.heap.objs.size l ne its.toArray, ⟨⟨_, Heap.get?_push_size _ rfl, rfl, rfl⟩, pl.isList.push _⟩, ?_, fun h' tk hk => ?_⟩
  · intro i v s' Q' E' hP hQ
    have hP' : its[i]? = some v := by simpa using hP
    have hi : i < bs.length := by
      have := (List.getElem?_eq_some_iff.mp hP').1
      omega
    have e1 : (bs.map V.bl)[i]? = some (.bl (bs.getD i false)) := by
      rw [List.getElem?_map, List.getElem?_eq_getElem hi, List.getD_eq_getElem?_getD, List.getElem?_eq_getElem hi]; rfl
    obtain ⟨u, hu, ru⟩ := rv.get e1
    rw [hP'] at hu
    cases hu
    cases ru
    exact wpAny_truthy_bool hQ
  · have hs : its.toArray.size = bs.length := by rw [List.size_toArray]; exact hlen.symm
    rw [hs, all_range]
    exact ⟨.bl _, H, I.kept fun b o e => hk b o (by
      have := Heap.lt_size e
      simp only [List.mem_singleton]
      exact Nat.ne_of_lt this) (Heap.get?_push_of_some _ e), rfl, q⟩
abbrev tabAt (K : PySem.W.Frag) (T : Addr) (D : List (Str × KTD.Dat)) : Prop := KTD.tabLook (KTD.datLooks fun a => K.lookup a) (fun a => K.lookup a) T D = true
theorem op_mul_str : OpR X (binaryOp .Mult) (fun x y H Q => ∃ z n, x = .str z ∧ y = .int n ∧ MulOk z n ∧ Q (.str (Txt.mul z n)) H) := by
  intro pins s σ H x y v u Q I rx ry h
  obtain ⟨z, n, e1, e2, hm, q⟩ := h
  subst e1 e2
  obtain ⟨t, e⟩ := rx
  subst e
  obtain ⟨t', e⟩ := ry
  subst e
  exact SB.mul hm fun t' k => ⟨.str _, H, I.tok k, ⟨t', rfl⟩, q⟩
noncomputable def gTupL (K : PySem.W.Frag) (n : Nat) (t : TGs) : TG := fun v σ H Q => ∃ a xs, v = .ref a ∧ SqL K H a xs ∧ xs.length = n ∧ t xs σ H Q
theorem pg_tupL {es : List Expr} {k : Nat} {t : TGs} {n : Nat} {pos : Pos} (hc : X.calm = true) (h : PGs X es t)
    (hn : (assignEach es X.env).length = n := by rfl) (hst : (assignEach es X.env).findIdx? (·.1) = none := by rfl) : PG X (.Tuple es k pos) (gTupL X.K n t) := by
  intro pins s σ H v u Q I r hw
  obtain ⟨a, xs, e1, hq, hl, hw⟩ := hw
  subst e1
  cases r
  obtain ⟨its, rv, ht, hz⟩ := I.list hq
  rw [assign_Tuple]
  refine wpAny_bind (wpAny_standAt ?_)
  unfold unpack
  have hsz : (assignEach es X.env).length = its.toArray.size := by rw [hn, List.size_toArray, ← rv.length, hl]
  rw [hsz, hst]
  refine wpAny_bind (wpAny_holding (PySem.W.kun_itemsOf (I.ok.hd hc) ht.isList fun h' hx => ?_))
  have I1 : Inv X pins σ H { s with heap := h' } := I.kept (t' := s.toks) fun b o e => hx b o (Nat.ne_of_lt (Heap.lt_size e)) e
  exact h pins _ σ H xs _ Q I1 (by simpa using rv) hw
end
end L2
set_option Elab.async false
set_option linter.all false
set_option maxRecDepth 100000
set_option maxHeartbeats 4000000
namespace L2
open PySem PySem.Spec PyProof.Rows

section
variable {X : Cx} {elts : List Expr} {k : Nat} {tpos : Pos}
end
end L2
set_option Elab.async false
set_option linter.all false
set_option maxRecDepth 100000
set_option maxHeartbeats 4000000
namespace L2
open PySem PySem.Spec PyProof.Rows
structure Fn (P : Program) (w : World) (K : PySem.W.Frag) (mg : Str → Option Value) (base : Heap) (x : Str) (ps : List Str) (k : Nat) (sp : Sp) : Prop where
  ex : ∃ f fd, FnOk P w K mg base CX0 k f fd ps sp ∧ mg x = some (.ref f) ∧ PySem.W.keepIn K (.ref f) = true ∧ Binds K fd ps []
section
variable {X : Cx}
theorem pe_fn {x : Str} {ps : List Str} {k : Nat} {sp : Sp} {e : Expr} {es : List Expr} {t : TA} {p pos : Pos} (F : Fn X.prog X.w X.K X.mg X.base x ps k sp) (hr : Room k X.A) (hg : Gl X x) (ha : PA X (e :: es) t)
    (hdb : (x == ("__debug__" : Str)) = false := by decide) (he : starEach (e :: es) X.env = (false, eval e X.env) :: starEach es X.env := by rfl) (hpl : (backTo pos (starEach es X.env)).any (·.1) = false := by rfl) :
    PE X (.Call (.Name x p) (e :: es) [] pos) (tCall sp [] E0 t) := by
  obtain ⟨f, fd, G, hm, hk, hb⟩ := F.ex
  exact pe_call G hr hg hm hk hb .nil pass0 ha hdb he hpl
end
section
variable {σ : St} {H : Hp} {Q : VK} {K : PySem.W.Frag}
theorem i_var {i : Nat} {v : V} (h : σ[i]? = some (some v)) (q : Q v H) : tVar i σ H Q := ⟨v, h, q⟩
theorem i_c {v : V} (q : Q v H) : tC v σ H Q := q
theorem i_op {r : R2} {ta tb : TE} (q : ta σ H fun x H1 => tb σ H1 fun y H2 => r x y H2 Q) : tOp r ta tb σ H Q := q
theorem i_rI0 {g : Int → Int → V} {i j : Int} (q : Q (g i j) H) : rI0 g (.int i) (.int j) H Q := ⟨i, j, rfl, rfl, q⟩
theorem i_rI {C : Int → Int → Prop} {g : Int → Int → V} {i j : Int} (c : C i j) (q : Q (g i j) H) : rI C g (.int i) (.int j) H Q := ⟨i, j, rfl, rfl, c, q⟩
theorem i_eq {x y : V} (h : scal x y = true) (q : Q (.bl (decide (x = y))) H) : rEq x y H Q := ⟨h, q⟩
theorem i_ne {x y : V} (h : scal x y = true) (q : Q (.bl (!decide (x = y))) H) : rNe x y H Q := ⟨h, q⟩
theorem i_test {t : TE} {R : Bool → Hp → Prop} (q : t σ H fun x H' => ∃ k, x = .bl k ∧ R k H') : tTest t σ H R := q
theorem i_tB {t : TE} {R : Bool → Hp → Prop} (q : t σ H fun x H' => ∃ k, x = .bl k ∧ R k H') : tB t σ H R := q
theorem i_and {t u : TT} {R : Bool → Hp → Prop} (q : t σ H fun c H1 => if c = true then u σ H1 R else R false H1) : tAnd t u σ H R := q
theorem i_or {t u : TT} {R : Bool → Hp → Prop} (q : t σ H fun c H1 => if c = true then R true H1 else u σ H1 R) : tOr t u σ H R := q
theorem i_not {t : TT} {R : Bool → Hp → Prop} (q : t σ H fun c H1 => R (!c) H1) : tNot t σ H R := q
theorem i_andV {ta tb : TE} (q : ta σ H fun x H1 => ∃ c, x = .bl c ∧ if c = true then tb σ H1 Q else Q (.bl false) H1) : tAndV ta tb σ H Q := q
theorem i_orV {ta tb : TE} (q : ta σ H fun x H1 => ∃ c, x = .bl c ∧ if c = true then Q (.bl true) H1 else tb σ H1 Q) : tOrV ta tb σ H Q := q
theorem i_notV {ta : TE} (q : ta σ H fun x H1 => ∃ c, x = .bl c ∧ Q (.bl (!c)) H1) : tNotV ta σ H Q := q
theorem i_ifE {t : TT} {ta tb : TE} (q : t σ H fun c H1 => if c = true then ta σ H1 Q else tb σ H1 Q) : tIf t ta tb σ H Q := q
theorem i_nil {R : List V → Hp → Prop} (q : R [] H) : tNil σ H R := q
theorem i_cons {te : TE} {tr : TA} {R : List V → Hp → Prop} (q : te σ H fun x H1 => tr σ H1 fun xs H2 => R (x :: xs) H2) : tCons te tr σ H R := q
theorem i_call {sp : Sp} {E : XK} {t : TA} (q : t σ H fun vs H1 => sp vs H1 Q E) : tCall sp [] E t σ H Q := by
  show t σ H fun vs H1 => sp (vs ++ []) H1 Q E
  simpa only [List.append_nil] using q
theorem i_cb {r : List V → Hp → VK → Prop} {t : TA} (q : t σ H fun vs H1 => r vs H1 Q) : tCB r t σ H Q := q
theorem i_tup {t : TA} (q : t σ H fun xs H1 => xs.length ≤ sizeLine ∧ ∀ p, H1 p = none → Q (.ref p) (upd H1 p (.tup xs))) : tTup t σ H Q := q
theorem i_lst {t : TA} (q : t σ H fun xs H1 => xs.length ≤ sizeLine ∧ ∀ p, H1 p = none → Q (.ref p) (upd H1 p (.lst xs))) : tLst t σ H Q := q
theorem i_bm {T : String} {r : V → List V → Hp → VK → Prop} {to : TE} {t : TA} (q : to σ H fun x H1 => tyV K T x H1 ∧ t σ H1 fun xs H2 => r x xs H2 Q) : tBM K T r to t σ H Q := q
theorem i_sl {r : V → Option Int → Option Int → Hp → VK → Prop} {te : TE} {tl th : TO} (q : te σ H fun x H1 => tl σ H1 fun l H2 => th σ H2 fun u H3 => r x l u H3 Q) : tSl r te tl th σ H Q := q
theorem i_nopart {R : Option Int → Hp → Prop} (q : R none H) : tNoPart σ H R := q
theorem i_part {t : TE} {R : Option Int → Hp → Prop} (q : t σ H fun x H1 => ∃ i, x = .int i ∧ R (some i) H1) : tPart t σ H R := q
theorem i_ixL {p : Addr} {xs : List V} {i : Int} {v : V} (h : SqL K H p xs) (e : atI xs i = some v) (q : Q v H) : rIxL K (.ref p) (.int i) H Q := ⟨p, xs, i, v, rfl, rfl, h, e, q⟩
theorem i_ixT {p : Addr} {xs : List V} {i : Int} {v : V} (h : H p = some (.tup xs)) (e : atI xs i = some v) (q : Q v H) : rIxT K (.ref p) (.int i) H Q := ⟨p, xs, i, v, rfl, rfl, SqT.of h, e, q⟩
theorem i_ixS {z : Str} {i : Int} {c : Nat} (hz : z.length ≤ sizeLine) (e : atI z.cps.toList i = some c) (q : Q (.str ⟨#[c]⟩) H) : rIxS (.str z) (.int i) H Q := ⟨z, i, c, rfl, rfl, hz, e, q⟩
variable {D : Ends}
theorem s_seq {t u : TS} (q : t { D with nx := u D } σ H) : tSeq t u D σ H := q
theorem s_asg {te : TE} {g : TG} (q : te σ H fun x H1 => g x σ H1 D.nx) : tAsg te g D σ H := q
theorem s_name {i : Nat} {v : V} {R : St → Hp → Prop} (q : R (σ.set i (some v)) H) : gName i v σ H R := q
theorem s_drop {te : TE} (q : te σ H fun _ H1 => D.nx σ H1) : tDrop te D σ H := q
theorem s_ret {te : TE} (q : te σ H D.rt) : tRet te D σ H := q
theorem s_next (q : D.nx σ H) : tNext D σ H := q
theorem s_if {c : TT} {t u : TS} (q : c σ H fun b H1 => if b = true then t D σ H1 else u D σ H1) : tIfS c t u D σ H := q
theorem s_sub {to ti : TE} {t : TSet} {v : V} {R : St → Hp → Prop} (q : to σ H fun o H1 => ti σ H1 fun i H2 => t o i v H2 fun H3 => R σ H3) : gSub to ti t v σ H R := q
theorem s_setL {p : Addr} {xs : List V} {k : Int} {j : Nat} {v : V} {R : Hp → Prop} (h : H p = some (.lst xs)) (e : ixN xs.length k = some j) (q : R (upd H p (.lst (xs.set j v)))) : rSetL (.ref p) (.int k) v H R := ⟨p, xs, k, j, rfl, rfl, h, e, q⟩
theorem s_for {wi : TI} {g : TG} {tb : TS} (q : wi σ H fun J H1 => ∃ W : Nat → Nat → St → Hp → Prop, (∃ m, W 0 m σ H1) ∧ ∀ i m σ H, W i m σ H →
  (J.stop i H ∧ D.nx σ H) ∨ (J.go i H ∧ ∃ N : St → Hp → Prop, (∀ σ' H', N σ' H' → ∃ m', m' < m ∧ W (i + 1) m' σ' H') ∧ ∀ x H', J.yld i H x H' → g x σ H' fun σ2 H2 => tb { D with nx := N, ct := N, bk := D.nx } σ2 H2)) : tFor wi g tb D σ H := q
theorem s_rng1 {ta : TA} {R : It → Hp → Prop} (q : ta σ H fun vs H1 => ∃ j : Int, vs = [.int j] ∧ -(2 ^ 62) ≤ j ∧ j < 2 ^ 62 ∧ R (Itr 0 j.toNat) H1) : iRng1 ta σ H R := q
theorem s_list {tl : TE} {R : It → Hp → Prop} (q : tl σ H fun x H1 => ∃ a, x = .ref a ∧ (∃ xs, SqL K H1 a xs) ∧ R (Itl K a) H1) : iList K tl σ H R := q
theorem s_str {tl : TE} {R : It → Hp → Prop} (q : tl σ H fun v H1 => ∃ z : Str, v = .str z ∧ R (Itf z.cps.size (signV z)) H1) : iStr tl σ H R := q
theorem s_strI {z : Str} {R : It → Hp → Prop} (q : R (Itf z.cps.size (signV z)) H) : ∃ y : Str, V.str z = .str y ∧ R (Itf y.cps.size (signV y)) H := ⟨z, rfl, q⟩
theorem i_comp {wi : TI} {g : TG} {tt : TT} {te : TE} {f : St → St} (q : wi σ H fun J H1 => ∀ D, H1 D = none → ∃ W : Nat → Nat → Hp → List V → Prop, (∃ m, W 0 m (upd H1 D (.lst [])) []) ∧
  ∀ i m H ys, W i m H ys → H D = some (.lst ys) ∧ ((J.stop i H ∧ Q (.ref D) H) ∨ (J.go i H ∧ ∀ x H', J.yld i H x H' → g x (f σ) H' fun σ2 H2 => wk (f σ) σ2 ∧ tt σ2 H2 fun b H3 =>
    if b = true then te σ2 H3 fun v H4 => H4 D = some (.lst ys) ∧ ys.length < sizeLine ∧ ∃ m', m' < m ∧ W (i + 1) m' (upd H4 D (.lst (ys ++ [v]))) (ys ++ [v])
    else ∃ m', m' < m ∧ W (i + 1) m' H3 ys))) : tComp wi g tt te f σ H Q := q
end
noncomputable def NextC (Pv : Nat → Hp → List V → Prop) (n : Nat) (D : Addr) (i : Nat) (ys : List V) : VK := fun v H4 => H4 D = some (.lst ys) ∧ ys.length < sizeLine ∧ ∃ m', m' < n - i ∧ (m' = n - (i + 1) ∧ i + 1 ≤ n ∧ Pv (i + 1) (upd H4 D (.lst (ys ++ [v]))) (ys ++ [v]))
theorem NextC.mk {Pv : Nat → Hp → List V → Prop} {n : Nat} {D : Addr} {i : Nat} {ys : List V} {v : V} {H4 : Hp} (hd : H4 D = some (.lst ys)) (hi : i < n) (hl : ys.length < sizeLine) (p : Pv (i + 1) (upd H4 D (.lst (ys ++ [v]))) (ys ++ [v])) : NextC Pv n D i ys v H4 :=
  ⟨hd, hl, n - (i + 1), by omega, rfl, hi, p⟩
section
variable {K : PySem.W.Frag} {g : TG} {te : TE} {σ0 : St} {QD : Hp → Prop} {H1 : Hp} {D : Addr}
theorem comp_range {lo : Int} {n : Nat} (Pv : Nat → Hp → List V → Prop) (h0 : Pv 0 (upd H1 D (.lst [])) []) (hD : ∀ i H ys, Pv i H ys → H D = some (.lst ys))
    (hs : ∀ i H ys, i < n → Pv i H ys → g (.int (lo + i)) σ0 H fun σ2 H2 => wk σ0 σ2 ∧ tYes σ2 H2 fun b H3 => if b = true then te σ2 H3 (NextC Pv n D i ys) else ∃ m', m' < n - i ∧ (m' = n - (i + 1) ∧ i + 1 ≤ n ∧ Pv (i + 1) H3 ys)) (hd : ∀ H ys, Pv n H ys → QD H) :
    ∃ W : Nat → Nat → Hp → List V → Prop, (∃ m, W 0 m (upd H1 D (.lst [])) []) ∧ ∀ i m H ys, W i m H ys → H D = some (.lst ys) ∧ (((Itr lo n).stop i H ∧ QD H) ∨ ((Itr lo n).go i H ∧ ∀ x H', (Itr lo n).yld i H x H' → g x σ0 H' fun σ2 H2 => wk σ0 σ2 ∧ tYes σ2 H2 fun b H3 =>
      if b = true then te σ2 H3 fun v H4 => H4 D = some (.lst ys) ∧ ys.length < sizeLine ∧ ∃ m', m' < m ∧ W (i + 1) m' (upd H4 D (.lst (ys ++ [v]))) (ys ++ [v]) else ∃ m', m' < m ∧ W (i + 1) m' H3 ys)) := by
  refine ⟨fun i m H ys => m = n - i ∧ i ≤ n ∧ Pv i H ys, ⟨n, by simp, Nat.zero_le _, h0⟩, ?_⟩
  rintro i m H ys ⟨rfl, hi, p⟩
  refine ⟨hD i H ys p, ?_⟩
  by_cases hlt : i < n
  · refine .inr ⟨hlt, fun x H' y => ?_⟩
    obtain ⟨e, y⟩ := y
    subst e y
    exact hs i _ ys hlt p
  · have e : i = n := by omega
    subst e
    exact .inl ⟨Nat.le_refl _, hd H ys p⟩
theorem comp_list {a : Addr} {xs : List V} (Pv : Nat → Hp → List V → Prop) (h0 : Pv 0 (upd H1 D (.lst [])) []) (hD : ∀ i H ys, Pv i H ys → H D = some (.lst ys) ∧ SqL K H a xs)
    (hs : ∀ i x H ys, xs[i]? = some x → Pv i H ys → g x σ0 H fun σ2 H2 => wk σ0 σ2 ∧ tYes σ2 H2 fun b H3 => if b = true then te σ2 H3 (NextC Pv xs.length D i ys) else ∃ m', m' < xs.length - i ∧ (m' = xs.length - (i + 1) ∧ i + 1 ≤ xs.length ∧ Pv (i + 1) H3 ys)) (hd : ∀ H ys, Pv xs.length H ys → QD H) :
    ∃ W : Nat → Nat → Hp → List V → Prop, (∃ m, W 0 m (upd H1 D (.lst [])) []) ∧ ∀ i m H ys, W i m H ys → H D = some (.lst ys) ∧ (((Itl K a).stop i H ∧ QD H) ∨ ((Itl K a).go i H ∧ ∀ x H', (Itl K a).yld i H x H' → g x σ0 H' fun σ2 H2 => wk σ0 σ2 ∧ tYes σ2 H2 fun b H3 =>
      if b = true then te σ2 H3 fun v H4 => H4 D = some (.lst ys) ∧ ys.length < sizeLine ∧ ∃ m', m' < m ∧ W (i + 1) m' (upd H4 D (.lst (ys ++ [v]))) (ys ++ [v]) else ∃ m', m' < m ∧ W (i + 1) m' H3 ys)) := by
  refine ⟨fun i m H ys => m = xs.length - i ∧ i ≤ xs.length ∧ Pv i H ys, ⟨xs.length, by simp, Nat.zero_le _, h0⟩, ?_⟩
  rintro i m H ys ⟨rfl, hi, p⟩
  obtain ⟨d1, d2⟩ := hD i H ys p
  refine ⟨d1, ?_⟩
  by_cases hlt : i < xs.length
  · refine .inr ⟨⟨xs, xs[i], d2, by simp [hlt]⟩, fun x H' y => ?_⟩
    obtain ⟨e, y⟩ := y
    subst e
    exact hs i x _ ys (y xs d2) p
  · have e : i = xs.length := by omega
    subst e
    exact .inl ⟨⟨xs, d2, Nat.le_refl _⟩, hd H ys p⟩
theorem comp_itf {n : Nat} {f : Nat → V} (Pv : Nat → Hp → List V → Prop) (h0 : Pv 0 (upd H1 D (.lst [])) []) (hD : ∀ i H ys, Pv i H ys → H D = some (.lst ys))
    (hs : ∀ i H ys, i < n → Pv i H ys → g (f i) σ0 H fun σ2 H2 => wk σ0 σ2 ∧ tYes σ2 H2 fun b H3 => if b = true then te σ2 H3 (NextC Pv n D i ys) else ∃ m', m' < n - i ∧ (m' = n - (i + 1) ∧ i + 1 ≤ n ∧ Pv (i + 1) H3 ys)) (hd : ∀ H ys, Pv n H ys → QD H) :
    ∃ W : Nat → Nat → Hp → List V → Prop, (∃ m, W 0 m (upd H1 D (.lst [])) []) ∧ ∀ i m H ys, W i m H ys → H D = some (.lst ys) ∧ (((Itf n f).stop i H ∧ QD H) ∨ ((Itf n f).go i H ∧ ∀ x H', (Itf n f).yld i H x H' → g x σ0 H' fun σ2 H2 => wk σ0 σ2 ∧ tYes σ2 H2 fun b H3 =>
      if b = true then te σ2 H3 fun v H4 => H4 D = some (.lst ys) ∧ ys.length < sizeLine ∧ ∃ m', m' < m ∧ W (i + 1) m' (upd H4 D (.lst (ys ++ [v]))) (ys ++ [v]) else ∃ m', m' < m ∧ W (i + 1) m' H3 ys)) := by
  refine ⟨fun i m H ys => m = n - i ∧ i ≤ n ∧ Pv i H ys, ⟨n, by simp, Nat.zero_le _, h0⟩, ?_⟩
  rintro i m H ys ⟨rfl, hi, p⟩
  refine ⟨hD i H ys p, ?_⟩
  by_cases hlt : i < n
  · refine .inr ⟨hlt, fun x H' y => ?_⟩
    obtain ⟨e, y⟩ := y
    subst e y
    exact hs i _ ys hlt p
  · have e : i = n := by omega
    subst e
    exact .inl ⟨rfl, hd H ys p⟩
end
end L2
namespace L2
open PySem PySem.Spec PyProof.Rows
section
variable {H : Hp} {Q : VK} {K : PySem.W.Frag}
theorem i_slS {z : Str} {lo hi : Option Int} (h : z.length ≤ sizeLine) (q : Q (.str (Txt.slice z lo hi)) H) : rSlS (.str z) lo hi H Q := ⟨z, rfl, h, q⟩
theorem i_slL {a : Addr} {xs : List V} {lo hi : Option Int} (h : SqL K H a xs) (q : ∀ p, H p = none → Q (.ref p) (upd H p (.lst (cutV xs lo hi)))) : rSlL K (.ref a) lo hi H Q := ⟨a, xs, rfl, h, q⟩
theorem i_in {x : V} {p : Addr} {xs : List V} (h : SqL K H p xs) (fx : flatV x = true) (fs : xs.all flatV = true) (q : Q (.bl (inV x xs)) H) : rIn K false x (.ref p) H Q := ⟨p, xs, rfl, .inl h, fx, fs, q⟩
theorem i_cat {l b : Addr} {xs zs : List V} (h1 : H l = some (.lst xs)) (h2 : H b = some (.lst zs)) (hz : xs.length + zs.length ≤ sizeLine) (q : ∀ p, H p = none → Q (.ref p) (upd H p (.lst (xs ++ zs)))) : rCat (.ref l) (.ref b) H Q := ⟨l, b, xs, zs, rfl, rfl, h1, h2, hz, q⟩
theorem i_app {l : Addr} {xs : List V} {y : V} (h : H l = some (.lst xs)) (hz : xs.length < sizeLine) (q : Q .non (upd H l (.lst (xs ++ [y])))) : rAppend (.ref l) [y] H Q := ⟨l, xs, y, rfl, rfl, h, hz, q⟩
theorem i_tyL {p : Addr} {xs : List V} (h : H p = some (.lst xs)) : tyV K "list" (.ref p) H := .inl ⟨rfl, xs, SqL.of h⟩
end
theorem fresh_same {H : Hp} {p : Addr} {o : HO} (hp : H p = none) : Same H (upd H p o) := fun b u e => by rw [upd_ne (ne_of_none e hp)]; exact e
end L2
set_option Elab.async false
set_option linter.all false
set_option maxRecDepth 100000
set_option maxHeartbeats 4000000
namespace LZ
open PySem
section
variable {prog : Program} {w : World} {A : Around} {E : Value → Shared → Prop} {s : Shared}
abbrev IsZ (h : Heap) (z TI TO : Addr) (f0 : Value) (f1 : Bool) : Prop :=
  h.get? z = some { cls := .type "zip", dict := none, data := .fields #[f0, .bool f1, .bool false, .ref TI, .ref TO], slots := #[] }
structure Apart5 (z TI TO i1 i2 l : Addr) : Prop where
  TIz : TI ≠ z
  TOz : TO ≠ z
  i1z : i1 ≠ z
  i2z : i2 ≠ z
  TITO : TI ≠ TO
  TIi1 : TI ≠ i1
  TIi2 : TI ≠ i2
  TOi1 : TO ≠ i1
  TOi2 : TO ≠ i2
  i12 : i1 ≠ i2
  lz : l ≠ z
  lTO : l ≠ TO
  li1 : l ≠ i1
  li2 : l ≠ i2


end
end LZ
set_option Elab.async false
set_option linter.all false
set_option maxRecDepth 100000
set_option maxHeartbeats 4000000
namespace LZ
open PySem
structure ApartD (z TI TO i1 i2 l d : Addr) : Prop extends Apart5 z TI TO i1 i2 l where
  dz : d ≠ z
  dTI : d ≠ TI
  dTO : d ≠ TO
  di1 : d ≠ i1
  di2 : d ≠ i2
  dl : d ≠ l
structure ZS (h : Heap) (z TI TO i1 i2 l d : Addr) (ty : String) (x : Str) (t : Tok) (xs : Array Value) (k : Nat) : Prop where
  zf : (IsZ h z TI TO .none false ∧ ∃ a b, IsPair h TO a b) ∨ ∃ (T : Addr) (f1 : Bool) (oT : Obj), IsZ h z TI TO (rawInt (T : Nat)) f1 ∧ h.get? T = some oT ∧ T ≠ z ∧ T ≠ i1 ∧ T ≠ i2 ∧ T ≠ d
  ti : IsPair h TI (.ref i1) (.ref i2)
  a1 : h.IsListIter i1 l k
  a2 : h.IsStrIter i2 ty x t k
  li : h.IsList l xs
section
variable {prog : Program} {w : World} {K : Type} [DecidableEq K] {knd : KeyKind prog w K} {A : Around} {R : Result → Shared → Prop}
theorem ZS.dict {h h' : Heap} {z TI TO i1 i2 l d : Addr} {ty : String} {x : Str} {t : Tok} {xs : Array Value} {k : Nat} (D : ApartD z TI TO i1 i2 l d) (Z : ZS h z TI TO i1 i2 l d ty x t xs k) (hs : Heap.SameBut d h h') : ZS h' z TI TO i1 i2 l d ty x t xs k := by
  refine ⟨?_, hs.extBut _ _ D.dTI.symm Z.ti, Z.a1.extBut hs.extBut D.di1.symm, Z.a2.extBut hs.extBut D.di2.symm, Z.li.extBut hs.extBut D.dl.symm⟩
  rcases Z.zf with ⟨hz, a, b, hTO⟩ | ⟨T, f1, oT, hz, hT, n1, n2, n3, n4⟩
  · exact .inl ⟨hs.extBut _ _ D.dz.symm hz, a, b, hs.extBut _ _ D.dTO.symm hTO⟩
  · exact .inr ⟨T, f1, oT, hs.extBut _ _ D.dz.symm hz, hs.extBut _ _ n4 hT, n1, n2, n3, n4⟩
end
end LZ
set_option Elab.async false
set_option linter.all false
set_option maxRecDepth 100000
set_option maxHeartbeats 4000000
namespace L2
open PySem PySem.Spec PyProof.Rows
section
variable {X : Cx} {a b : Expr} {ta : TA} {p1 p2 pos1 pos2 : Pos}
end
end L2
set_option Elab.async false
set_option linter.all false
set_option maxRecDepth 100000
set_option maxHeartbeats 4000000
namespace XE
open PySem
open Sem (wp)
structure XN (fs : List Addr) (e T : Addr) (oe : Obj) (h h' : Heap) : Prop where
  keep : ∀ b o, b ≠ e → b ∉ fs → h.get? b = some o → h'.get? b = some o
  slot : ∀ b o, b ≠ e → h.get? b = some o → ∃ sl, h'.get? b = some { o with slots := sl }
  at_ : h'.get? e = some (oe.mapFields (·.setIfInBounds 1 (.ref T)))
  new : h.get? T = none
section
variable {M : Model} {A : Around} {E : Value → Shared → Prop} {s : Shared}
structure Tr (e T : Addr) (h : Heap) : Prop where
  ex : ∃ oe vs oT ts, h.get? e = some oe ∧ oe.data = .fields vs ∧ vs[1]? = some (.ref T) ∧ h.get? T = some oT ∧ oT.data = .fields ts ∧ ts[3]? = some .none
  ne : T ≠ e
structure XL (fs : List Addr) (e : Addr) (Ts : List Addr) (h h' : Heap) : Prop where
  keep : ∀ b o, b ≠ e → b ∉ Ts → b ∉ fs → h.get? b = some o → h'.get? b = some o
  slot : ∀ b o, b ≠ e → b ∉ Ts → h.get? b = some o → ∃ sl, h'.get? b = some { o with slots := sl }
  at_ : ∀ oe, h.get? e = some oe → ∃ oe', h'.get? e = some oe' ∧ oe'.cls = oe.cls ∧ oe'.dict = oe.dict
end
end XE
set_option Elab.async false
set_option linter.all false
set_option maxRecDepth 100000
set_option maxHeartbeats 4000000
namespace XE
open PySem
structure XC (g : Heap) (C : Addr) (B new : String) (up top : List Value) : Prop where
  obj : ∃ nm q N bs hd sn sub ab col dd a0 a1 a2 a3 a5, g.get? C = some (excClassObj nm q C N bs up hd sn sub ab col dd a0 a1 a2 a3 a5 new)
  tail : OwnTail g top up
theorem XC.keeps {g g' : Heap} {C : Addr} {B new : String} {up top : List Value} (x : XC g C B new up top) (k : ∀ b o, g.get? b = some o → g'.get? b = some o) : XC g' C B new up top := by
  obtain ⟨a1, a2, a3, a4, a5, a6, a7, a8, a9, a10, a11, a12, a13, a14, a15, e⟩ := x.obj
  exact ⟨⟨a1, a2, a3, a4, a5, a6, a7, a8, a9, a10, a11, a12, a13, a14, a15, k _ _ e⟩, x.tail.keeps k⟩
section
variable {P : Program} {w : World} {A : Around} {E : Value → Shared → Prop} {g : Heap} {gs : Array GenState} {dr : Drawn} {tk : Nat} {os : OsState} {C : Addr} {B new init : String} {up top : List Value}
end
end XE
set_option Elab.async false
set_option linter.all false
set_option maxRecDepth 100000
set_option maxHeartbeats 1000000
namespace XE
open PySem PySem.W PySem.Calls PyProof.Rows Builtin Builtin.ObjectAttr
abbrev vmro : List Value := [.type "ValueError", .type "Exception", .type "BaseException", .type "object"]
structure XKl (K : Frag) (C NE : Addr) : Prop where
  mr : ((clsIn K C).any fun cd => cd.mro == .ref C :: .ref NE :: vmro) = true
  ga : findIn K (.ref C) "__getattribute__" = some (some (.builtin "BaseException.__getattribute__"))
  gh : findIn K (.ref C) "__getattr__" = some none
  sb : subIn K (.ref C) (.type "BaseException") = some true
  hd : hasDictIn K C = true
  cl : findIn K (.ref C) "__class__" = some (some (.builtin "object.__class__"))
  cg : specialIn K (.builtin "object.__class__") "__get__" = some (some (.builtin "getset_descriptor.__get__"))
  ct : takesIn K (.builtin "object.__class__") = some true
  ob : mroIn K C (.type "object") = some true
  sa : findIn K (.ref C) "__setattr__" = some (some (.builtin "object.__setattr__"))
section
variable {P : Program} {w : World} {A : Around} {E : Value → Shared → Prop} {R : Result → Shared → Prop} {s : Shared} {K : Frag} {x C NE : Addr} {ox : Obj} {od : Option Obj} {name : Str}
end
end XE
set_option Elab.async false
set_option linter.all false
set_option maxRecDepth 100000
set_option maxHeartbeats 1000000
namespace L2
open PySem PySem.Spec PyProof.Rows PySem.Calls
noncomputable def XOk (e C : Addr) (d : Option Addr) (fresh : Bool) (h : Heap) : Prop := ∃ o vs, h.get? e = some o ∧ o.cls = .ref C ∧ o.dict = d ∧ o.data = .fields vs ∧ (fresh = true → ∃ t, vs = #[.ref t, .none, .none, .none, .bool false, .none])
abbrev XO (e C : Addr) (d : Option Addr) (fresh : Bool) : HO := .ext (XOk e C d fresh)
section
variable {P : Program} {w : World} {H H1 H2 : Hp} {h h1 h2 : Heap} {a e C L : Addr} {d : Option Addr} {b : Bool} {o u : HO} {fs Ts : List Addr}
theorem ObjOk.there (x : ObjOk P w H h a o) : ∃ u, h.get? a = some u := by
  induction o with
  | lst xs => obtain ⟨_, _, _, _, e⟩ := x; exact ⟨_, e⟩
  | tup xs => obtain ⟨_, _, _, _, e, _⟩ := x; exact ⟨_, e⟩
  | dK kvs => obtain ⟨_, _, _, _, o, _, _, e, _⟩ := x; exact ⟨_, e⟩
  | dT kvs => obtain ⟨_, _, _, _, o, _, _, e, _⟩ := x; exact ⟨_, e⟩
  | set S n => obtain ⟨o, _, _, _, e, _⟩ := x; exact ⟨_, e⟩
  | ins C dx fs => obtain ⟨_, _, _, e, _⟩ := x; exact ⟨_, e⟩
  | own y => obtain ⟨_, e⟩ := x; exact ⟨_, e⟩
  | xd fs => obtain ⟨_, ⟨_, _, _, e, _⟩, _⟩ := x; exact ⟨_, e⟩
  | rng lo hi => obtain ⟨_, _, _, e⟩ := x; exact ⟨_, e⟩
  | frz ob u ih => obtain ⟨e, _⟩ := x; exact ⟨_, e⟩
  | tbl ps => exact ⟨_, (show h.get? a = some _ from x)⟩
  | met f y => exact ⟨_, (show h.get? a = some _ from x)⟩
  | ext φ => obtain ⟨_, e, _⟩ := x; exact e
end
noncomputable def CX1 (P : Program) (w : World) : CXT := fun outer H s E ev s' => ∃ (e C T : Addr) (d : Option Addr) (H' : Hp), ev = .ref e ∧ s'.os = s.os ∧ AllBare s'.gens ∧ Un (frs outer) [] H H' s.heap s'.heap ∧ HOk P w H' s'.heap ∧
  H' e = some (XO e C d false) ∧ s.heap.get? T = none ∧ H' T = none ∧ XE.Tr e T s'.heap ∧ E (.ref C) (some e) H'
section
variable {P : Program} {w : World} {K : PySem.W.Frag} {mg : Str → Option Value} {base : Heap} {N : List Str} {qual : Str} {scope : Scope} {f : Addr} {cd : Value} {A : Around} {outer : List Env} {s s1 : Shared} {H H1 : Hp} {E : XK} {pins : List (Addr × Obj)} {σ : St} {e C : Addr} {d : Option Addr}
end
section
variable {X : Cx} {pins : List (Addr × Obj)} {σ : St} {H : Hp} {s : Shared}
end
section
variable {X : Cx}
structure XMk (K : PySem.W.Frag) (C NE : Addr) : Prop where
  xc : ∀ h : Heap, K.In h → XE.XC h C "ValueError" "ValueError.__new__" (.ref NE :: XE.vmro) XE.vmro
  kp : PySem.W.keepIn K (.ref C) = true
  kl : XE.XKl K C NE
end
end L2
set_option Elab.async false
set_option linter.all false
set_option maxRecDepth 100000
set_option maxHeartbeats 1000000
namespace L2
open PySem PySem.Spec PyProof.Rows PySem.Calls
section
variable {X : Cx}
end
end L2
set_option Elab.async false
set_option linter.all false
set_option maxRecDepth 100000
set_option maxHeartbeats 1000000
namespace XE
open PySem PySem.W PySem.Calls PyProof.Rows
section
variable {P : Program} {w : World} {A : Around} {E : Value → Shared → Prop} {g : Heap} {gs : Array GenState} {dr : Drawn} {tk : Nat} {os : OsState} {C : Addr} {B new init : String} {up top : List Value}
end
section
variable {P : Program} {w : World} {A : Around} {E : Value → Shared → Prop} {s : Shared} {K : Frag} {x C NE : Addr} {ox : Obj} {od : Option Obj}
end
end XE
namespace L2
open PySem PySem.Spec PyProof.Rows PySem.Calls
section
variable {X : Cx}
end
section
variable {P : Program} {w : World} {K : PySem.W.Frag} {mg : Str → Option Value} {base : Heap} {N : List Str} {qual : Str} {scope : Scope} {f : Addr} {cd : Value} {A : Around} {outer : List Env} {s : Shared} {H : Hp} {E : XK}
end
section
variable {X : Cx}
noncomputable def XP (X : Cx) (pins : List (Addr × Obj)) (σ : St) (E : XK) (ev : Value) (s' : Shared) : Prop := ∃ H1 s1, Inv X pins σ H1 s1 ∧ CX1 X.prog X.w X.stack H1 s1 E ev s'
end
end L2
set_option Elab.async false
set_option linter.all false
set_option maxRecDepth 100000
set_option maxHeartbeats 4000000
namespace L2
open PySem PySem.Spec PyProof.Rows
section
variable {X : Cx}
end
end L2
set_option Elab.async false
set_option linter.all false
set_option maxRecDepth 100000
set_option maxHeartbeats 4000000
namespace LZ
open PySem
section
variable {prog : Program} {w : World} {A : Around} {E : Value → Shared → Prop} {s : Shared}
end
section
variable {prog : Program} {w : World} {K : Type} [DecidableEq K] {knd : KeyKind prog w K} {A : Around} {R : Result → Shared → Prop}
noncomputable def PairsAt (h : Heap) (xs : Array Value) (ka va : Nat → Value) (it d : Addr) : Prop := ∀ k, k < xs.size → ∃ (T : Addr) (o : Obj) (n : Nat), xs[k]? = some (.ref T) ∧ h.get? T = some o ∧ o.cls = .type "tuple" ∧ o.data = .seq #[ka k, va k] n ∧ T ≠ it ∧ T ≠ d
theorem PairsAt.keep {h h' : Heap} {xs : Array Value} {ka va : Nat → Value} {it d : Addr} (p : PairsAt h xs ka va it d) (hk : ∀ c o, c ≠ it → c ≠ d → h.get? c = some o → h'.get? c = some o) : PairsAt h' xs ka va it d := fun k hlt =>
  let ⟨T, o, n, e1, e2, e3, e4, e5, e6⟩ := p k hlt; ⟨T, o, n, e1, hk T o e5 e6 e2, e3, e4, e5, e6⟩
end
end LZ
set_option Elab.async false
set_option linter.all false
set_option maxRecDepth 100000
set_option maxHeartbeats 4000000
namespace L2
open PySem PySem.Spec PyProof.Rows
section
variable {X : Cx} {a : Expr} {ta : TA} {p1 pos1 : Pos}
end
end L2
set_option Elab.async false
set_option linter.all false
set_option maxRecDepth 100000
set_option maxHeartbeats 4000000
namespace LS
open PySem PySem.Spec PyProof.Rows
noncomputable def met (g : Nat → Str) : Nat → List Str
  | 0 => []
  | i + 1 => if g i ∈ met g i then met g i else met g i ++ [g i]
theorem met_le (g : Nat → Str) : ∀ i, (met g i).length ≤ i
  | 0 => Nat.le_refl _
  | i + 1 => by
    have q := met_le g i
    show (if g i ∈ met g i then met g i else met g i ++ [g i]).length ≤ i + 1
    split
    · omega
    · simp; omega
theorem met_mem (g : Nat → Str) (x : Str) : ∀ i, x ∈ met g i ↔ ∃ j, j < i ∧ g j = x
  | 0 => by simp [met]
  | i + 1 => by
    have q := met_mem g x i
    have e : x ∈ met g (i + 1) ↔ x ∈ met g i ∨ x = g i := by
      show x ∈ (if g i ∈ met g i then met g i else met g i ++ [g i]) ↔ _
      by_cases h : g i ∈ met g i
      · rw [if_pos h]
        exact ⟨.inl, fun z => z.elim id fun z => z ▸ h⟩
      · rw [if_neg h]; simp
    rw [e, q]
    constructor
    · rintro (⟨j, a, b⟩ | a)
      · exact ⟨j, by omega, b⟩
      · exact ⟨i, by omega, a.symm⟩
    · rintro ⟨j, a, b⟩
      rcases Nat.lt_succ_iff_lt_or_eq.mp a with c | c
      · exact .inl ⟨j, c, b⟩
      · subst c; exact .inr b.symm
section
variable {prog : Program} {w : World} {A : Around} {R : Result → Shared → Prop} {I S : Addr} {fp wr : List Addr} {G : Array GenState → Array GenState → Prop} {n : Nat} {P : Nat → Value → Prop} {St : Nat → Shared → Prop}
abbrev IsSet (prog : Program) (w : World) (h : Heap) (S : Addr) (g : Nat → Str) (i : Nat) : Prop := h.SetOf (strKind prog w) S (fun x => decide (x ∈ met g i)) (met g i).length
theorem IsSet.at {h h' : Heap} {g : Nat → Str} {i : Nat} (q : IsSet prog w h S g i) (k : ∀ o, h.get? S = some o → h'.get? S = some o) : IsSet prog w h' S g i := by
  obtain ⟨o, es, ep, t, e, r⟩ := q
  exact ⟨o, es, ep, t, k _ e, r⟩
theorem set_loop (W : WalksS prog w A.in1 I fp wr G n P St) (nS : S ∉ fp) (g : Nat → Str) (hg : ∀ i v, P i v → ∃ t, v = .str (g i) t) (hb : n + 1 < scanBound) :
    ∀ (m i : Nat) (s : Shared), n - i = m → i ≤ n → St i s → IsSet prog w s.heap S g i → (∀ s', Moved (S :: wr) G s s' → IsSet prog w s'.heap S g n → R (.ok (.ret .none)) s') →
      codeAny (model prog w) A (.builtin "set.update.loop" ⟨[.ref S, .ref I], []⟩) R s := by
  have nW : S ∉ wr := fun z => nS (W.sub _ z)
  have more : ∀ b ∈ wr, b ∈ S :: wr := fun b z => List.mem_cons_of_mem _ z
  intro m
  induction m with
  | zero =>
    intro i s em hi st q fin
    obtain rfl : i = n := by omega
    refine codeAny_builtin F.entry_set_update_loop ?_
    rw [Around.under_plainId F.plain_set_update_loop _]
    show wpAny _ A.in1 (pyNext (.ref I) >>= _) _ _ s
    exact wpAny_bind (W.done s _ _ st fun s1 mv => wpAny_pure (fin s1 (mv.mono more) (q.at fun o e => mv.heap S _ nW e)))
  | succ m ih =>
    intro i s em hi st q fin
    have lt : i < n := by omega
    refine codeAny_builtin F.entry_set_update_loop ?_
    rw [Around.under_plainId F.plain_set_update_loop _]
    show wpAny _ A.in1 (pyNext (.ref I) >>= _) _ _ s
    refine wpAny_bind (W.item i s _ _ lt st fun v s1 hP st1 mv => ?_)
    obtain ⟨t, rfl⟩ := hg i v hP
    have q1 := q.at fun o e => mv.heap S _ nW e
    show wpAny _ A.in1 (holding [Value.str (g i) t] (setAdd S (.str (g i) t)) >>= _) _ _ s1
    refine wpAny_bind (wpAny_holding ?_)
    unfold setAdd
    refine wpAny_holding (wpAny_bind ((strKind prog w).pyHash (k := g i) (strKind_is _ _ _ _) ?_))
    have room : (met g i).length + 1 < scanBound := by have := met_le g i; omega
    refine wpAny_setAddHashed_of (knd := strKind prog w) (s := { s1 with toks := s1.toks + 1 }) (strKind_is _ _ _ _) rfl q1 room fun h2 sb q2 => ?_
    have q3 : IsSet prog w h2 S g (i + 1) := by
      refine SetOf_congr q2 (fun x => ?_) ?_
      · show (decide (x ∈ met g i) || decide (x = g i)) = decide (x ∈ (if g i ∈ met g i then met g i else met g i ++ [g i]))
        by_cases z : g i ∈ met g i
        · rw [if_pos z]
          by_cases y : x = g i
          · subst y; simp [z]
          · simp [y]
        · rw [if_neg z]; simp
      · show (if decide (g i ∈ met g i) = true then _ else _) = (if g i ∈ met g i then met g i else met g i ++ [g i]).length
        by_cases z : g i ∈ met g i
        · simp [z]
        · simp [z]
    refine wpAny_pure ⟨plainId_quiet F.plain_set_update_loop _, ih (i + 1) _ (by omega) lt (W.frame _ s1 _ _ st1 (Nat.le_succ _) fun b z o e => ?_) q3 fun s3 mv3 q4 => ?_⟩
    · rw [sb.2 b (fun y : b = S => nS (by rw [← y]; exact z))]; exact e
    · refine fin s3 (Moved.trans W.gtrans ((mv.mono more).then_heap (Nat.le_succ _) fun b o z e => ?_) mv3) q4
      rw [sb.2 b (fun y : b = S => z (by rw [y]; exact List.mem_cons_self))]; exact e
end
section
variable {prog : Program} {w : World} {A : Around} {E : Value → Shared → Prop} {s : Shared}
abbrev bare (led : Bool) : Obj := { cls := .type "set", dict := none, data := .set #[] 0 (.fresh 0 0 led) }
theorem call_set_txt {l : Addr} {its : Array Value} {g : Nat → Str} {Q : Value → Shared → Prop} (hh : A.handled = none) (hl : s.heap.IsList l its) (hi : ∀ (i : Nat) (v : Value), its[i]? = some v → ∃ t, v = .str (g i) t) (hb : its.size + 1 < scanBound)
    (h : ∀ (h1 : Heap) (tk : Nat), IsSet prog w h1 s.heap.objs.size g its.size → (∀ b o, s.heap.get? b = some o → h1.get? b = some o) → Q (.ref s.heap.objs.size) { s with heap := h1, toks := tk }) :
    wpAny (model prog w) A (call (.type "set") [.ref l]) Q E s := by
  obtain ⟨cl, tl, mro⟩ := F.called_set.mro
  have y1 := F.called_set.made
  have y2 := F.called_set.sub
  refine wpAny_call (codeAny_of_tree ?_)
  show wpAny _ _ (callAny (.type "set") ⟨[.ref l], []⟩) _ _ _
  refine wpAny_pure ⟨Code.quiet_builtin _ (by decide +kernel), codeAny_builtin F.entry_type_call ?_⟩
  rw [Around.under_plain (weight_type_call_type "set" [.ref l] []) rfl]
  have y3 := F.called_set.notType
  have y4 := F.called_set.canCreate
  have y5 := F.typeCall_set_1 (.ref l)
  repeat (any_goals (first | assumption | wp_step))
  refine codeAny_mono (code_set_new_1 (.ref l) (E := E) (Q₁ := fun v s1 => ∃ led : Bool, v = .ref s.heap.objs.size ∧ s1 = { s with heap := s.heap.push (bare led) }) fun led => ⟨led, rfl, rfl⟩) fun r s1 hr => ?_
  cases r with
  | error e => exact hr
  | ok fl =>
    cases fl with
    | ret obj =>
      obtain ⟨led, rfl, rfl⟩ := hr
      have hS : (s.heap.push (bare led)).get? s.heap.objs.size = some (bare led) := Heap.get?_push_size _ rfl
      have hT : Shared.TypeIs { s with heap := s.heap.push (bare led) } (.ref s.heap.objs.size) "set" := ⟨_, hS, rfl⟩
      have y6 := F.called_set.init.lookup
      have y7 := F.called_set.init.bind (.ref s.heap.objs.size)
      repeat (any_goals (first | assumption | wp_step))
      refine codeAny_mono (codeAny_call_builtin (R := wants (fun v s2 => v = .none ∧ ∃ h1 tk, s2 = { s with heap := h1, toks := tk } ∧ IsSet prog w h1 s.heap.objs.size g its.size ∧ ∀ b o, s.heap.get? b = some o → h1.get? b = some o) E) F.called_set.init.plain F.entry_set_init (check_set_init_1 hT ?_)) fun r2 s2 hr2 => ?_
      · obtain ⟨ol, hol, hcl, nl, hdl⟩ := hl
        obtain ⟨ocls, odict, odata, oslots⟩ := ol
        simp only at hcl hdl
        subst hcl; subst hdl
        have hol1 : (s.heap.push (bare led)).get? l = some { cls := .type "list", dict := odict, data := .seq its nl, slots := oslots } := Heap.get?_push_of_some _ hol
        have y8 := F.sub_list_set
        have y9 := F.sub_list_frozenset
        have y0 : (Value.type "list" == Value.type "dict") = false := by decide
        have hl1 : (s.heap.push (bare led)).IsList l its := ⟨_, hol1, rfl, nl, rfl⟩
        unfold Builtin.«set.__init__» noKeywords Builtin.Frozenset.updateFrom
        generalize hPI : pyIter = PI
        wp_walk
        subst hPI
        refine wpAny_pyIter_list hl1 ?_
        refine wpAny_bind (wpAny_runValue ?_)
        have lS : l < s.heap.objs.size := Heap.lt_size hol
        have nI : l ≠ (s.heap.push (bare led)).objs.size := by
          rw [Heap.size_push]; exact Nat.ne_of_lt (Nat.lt_succ_of_lt lS)
        have nF : s.heap.objs.size ∉ [(s.heap.push (bare led)).objs.size, l] := by
          rw [Heap.size_push]; simp only [List.mem_cons, List.mem_singleton, List.not_mem_nil, or_false, not_or]
          exact ⟨Nat.ne_of_lt (Nat.lt_succ_self _), Nat.ne_of_gt lS⟩
        refine set_loop ((Walks.list (show A.in1.in1.in1.handled = none by simp [hh]) _ l nI its).toS) nF g hi hb (its.size - 0) 0 _ (by omega) (Nat.zero_le _) ⟨⟨_, Heap.get?_push_size _ rfl, rfl, rfl⟩, (hl1.push _)⟩ ?_ fun s3 mv q => ?_
        · have e : ((s.heap.push (bare led)).push { cls := .type "list_iterator", data := .fields #[.ref l, .int 0 0] }).get? s.heap.objs.size = some (bare led) := Heap.get?_push_of_some _ hS
          exact SetOf_congr ((setObjOf_fresh (knd := strKind prog w) led).setOf e (by unfold scanBound; omega)) (fun _ => by simp [met]) rfl
        · obtain ⟨h3, g3, d3, tk3, os3⟩ := s3
          obtain rfl : g3 = s.gens := mv.gens
          obtain rfl : d3 = s.drawn := mv.drawn
          obtain rfl : os3 = s.os := mv.os
          show wpAny _ _ _ _ _ _
          refine wpAny_pure ?_
          show wpAny _ _ (ret Value.none) _ _ _
          refine wpAny_pure ⟨rfl, h3, tk3, rfl, q, fun b o e => ?_⟩
          have lb := Heap.lt_size e
          have z1 : b ≠ s.heap.objs.size := Nat.ne_of_lt lb
          have z2 : b ≠ (s.heap.push (bare led)).objs.size := by
            rw [Heap.size_push]; exact Nat.ne_of_lt (Nat.lt_succ_of_lt lb)
          exact mv.heap b o (by simp only [List.mem_cons, List.mem_singleton, List.not_mem_nil, or_false, not_or]; exact ⟨z1, z2⟩) (Heap.get?_push_of_some _ (Heap.get?_push_of_some _ e))
      · cases r2 with
        | error e => exact hr2
        | ok fl2 =>
          cases fl2 with
          | ret r =>
            obtain ⟨rfl, h1, tk, rfl, q, k⟩ := hr2
            repeat (any_goals (first | assumption | wp_step))
            exact h _ _ q k
          | _ => exact hr2.elim
    | _ => exact hr.elim
end
end LS
set_option Elab.async false
set_option linter.all false
set_option maxRecDepth 100000
set_option maxHeartbeats 4000000
namespace L2
open PySem PySem.Spec PyProof.Rows
noncomputable def uniq (ts : List Str) : Nat := (LS.met (fun i => ts.getD i Str.empty) ts.length).length
section
variable {X : Cx} {a : Expr} {ta : TA} {p p1 pos pos1 : Pos}
noncomputable def tLenSet (K : PySem.W.Frag) (ta : TA) : TE := fun σ H Q => ta σ H fun vs H1 => ∃ l ts, vs = [.ref l] ∧ SqL K H1 l (ts.map V.str) ∧ ts.length < 1000 ∧ Q (.int (uniq ts)) H1
theorem pe_lenset (hc : X.calm = true) (hg : Gl X "len") (hm : X.mg "len" = none) (hg1 : Gl X "set") (hm1 : X.mg "set" = none) (ha : PA X [a] ta) (hs : starEach [a] X.env = [(false, eval a X.env)] := by rfl)
    (he : starEach [.Call (.Name "set" p1) [a] [] pos1] X.env = [(false, eval (.Call (.Name "set" p1) [a] [] pos1) X.env)] := by rfl) :
    PE X (.Call (.Name "len" p) [.Call (.Name "set" p1) [a] [] pos1] [] pos) (tLenSet X.K ta) := by
  intro pins s σ H Q I h
  refine wpAny_Call_Name_kw (ld_blt I hg hm PySem.boot_len ?_)
  refine PyProof.Rows.callWith_builtin1 ?_ he rfl
  rw [he]
  show wpAny _ _ (spliced ((false, eval (.Call (.Name "set" p1) [a] [] pos1) X.env) :: backTo pos [])) _ _ s
  refine Calls.spliced_cons ?_
  refine Call_ (ld_blt I hg1 hm1 PyProof.Rows.boot_set (PyProof.Rows.callWith_type1 (thn (ha pos1 pins s σ H _ I h) fun us s1 z => ?_) hs rfl))
  obtain ⟨vs, H1, I1, r1, l, ts, e, hl, hsm, q⟩ := z
  subst e
  obtain ⟨u1, e, ru1⟩ := vals1 r1
  subst e
  cases ru1
  obtain ⟨its, rv, pl, _⟩ := I1.list hl
  have hlen : its.length = ts.length := by rw [← rv.length, List.length_map]
  refine LS.call_set_txt (its := its.toArray) (g := fun i => ts.getD i Str.empty) (I1.ok.hd hc) pl.isList (fun i v hv => ?_) (by rw [List.size_toArray, hlen]; unfold scanBound; omega) fun h3 tk q3 kept => ?_
  · have hv' : its[i]? = some v := by simpa using hv
    have hi : i < ts.length := by
      have := (List.getElem?_eq_some_iff.mp hv').1
      omega
    have e1 : (ts.map V.str)[i]? = some (.str (ts.getD i Str.empty)) := by
      rw [List.getElem?_map, List.getElem?_eq_getElem hi, List.getD_eq_getElem?_getD, List.getElem?_eq_getElem hi]; rfl
    obtain ⟨u, hu, ru⟩ := rv.get e1
    rw [hv'] at hu
    cases hu
    obtain ⟨t, e2⟩ := ru
    exact ⟨t, e2⟩
  · refine Calls.spliced_nil ?_
    have hz : its.toArray.size = ts.length := by rw [List.size_toArray]; exact hlen
    rw [hz] at q3
    obtain ⟨o, es, ep, t, ho, hex, hd, _, _, _, hf, hn⟩ := q3
    have hle := LS.met_le (fun i => ts.getD i Str.empty) ts.length
    refine PySem.call_len_set ho hex hd hf (by rw [hn]; omega) ?_
    exact ⟨.int (uniq ts), H1, I1.kept (t' := tk + 1 + 1) kept, ⟨tk + 1, by rw [hn]; rfl⟩, q⟩
end
end L2
namespace LS
open PySem
theorem met_full (g : Nat → Str) : ∀ n, (met g n).length = n ↔ ∀ i j, i < n → j < n → g i = g j → i = j
  | 0 => ⟨fun _ i j h => absurd h (Nat.not_lt_zero _), fun _ => rfl⟩
  | n + 1 => by
    have ih := met_full g n
    have le := met_le g n
    have e : (met g (n + 1)).length = if g n ∈ met g n then (met g n).length else (met g n).length + 1 := by
      show (if g n ∈ met g n then met g n else met g n ++ [g n]).length = _
      split <;> simp
    constructor
    · intro h
      rw [e] at h
      have ni : g n ∉ met g n := fun z => by rw [if_pos z] at h; omega
      rw [if_neg ni] at h
      have old := ih.mp (by omega)
      have no : ∀ j, j < n → g j ≠ g n := fun j hj z => ni ((met_mem g _ n).mpr ⟨j, hj, z⟩)
      intro i j hi hj hg
      rcases Nat.lt_succ_iff_lt_or_eq.mp hi with a | a <;> rcases Nat.lt_succ_iff_lt_or_eq.mp hj with b | b
      · exact old i j a b hg
      · subst b; exact absurd hg (no i a)
      · subst a; exact absurd hg.symm (no j b)
      · omega
    · intro h
      have old := ih.mpr fun i j a b => h i j (by omega) (by omega)
      have ni : g n ∉ met g n := fun z => by
        obtain ⟨j, hj, q⟩ := (met_mem g _ n).mp z
        have := h j n (by omega) (by omega) q
        omega
      rw [e, if_neg ni]
      omega
end LS
namespace L2
open PySem
theorem uniq_all {ts : List Str} : uniq ts = ts.length ↔ ts.Nodup := by
  unfold uniq List.Nodup
  rw [LS.met_full, List.pairwise_iff_getElem]
  have at_ : ∀ (i : Nat) (hi : i < ts.length), ts.getD i Str.empty = ts[i] := fun i hi => by rw [List.getD_eq_getElem?_getD, List.getElem?_eq_getElem hi]; rfl
  constructor
  · intro h i j hi hj hij hq
    have := h i j hi hj (by rw [at_ i hi, at_ j hj, hq])
    omega
  · intro h i j hi hj hg
    rw [at_ i hi, at_ j hj] at hg
    by_cases a : i < j
    · exact absurd hg (h i j hi hj a)
    · by_cases b : j < i
      · exact absurd hg.symm (h j i hj hi b)
      · omega
end L2
set_option Elab.async false
set_option linter.all false
set_option maxRecDepth 100000
set_option maxHeartbeats 4000000
namespace L2
open PySem PySem.Spec PyProof.Rows
section
variable {X : Cx}
end
end L2
set_option Elab.async false
set_option linter.all false
set_option maxRecDepth 100000
set_option maxHeartbeats 4000000
namespace L2
open PySem PySem.Spec PyProof.Rows
abbrev partsD : List (Str × KTD.Dat) := [("wire", .flat (.int 2)), ("not", .flat (.int 2)), ("and", .flat (.int 3)), ("or", .flat (.int 3))]
section
variable {X : Cx} {o e : Expr} {apos cpos : Pos} {ty : TE} {T : Addr}
end
end L2
set_option Elab.async false
set_option linter.all false
namespace L2
open PySem PySem.Spec PyProof.Rows
section
variable {K : PySem.W.Frag} {g : TG} {te : TE} {σ0 : St} {QD : Hp → Prop} {H1 : Hp} {D : Addr}
theorem comp_tup {a : Addr} {xs : List V} (Pv : Nat → Hp → List V → Prop) (h0 : Pv 0 (upd H1 D (.lst [])) []) (hD : ∀ i H ys, Pv i H ys → H D = some (.lst ys) ∧ SqT K H a xs)
    (hs : ∀ i x H ys, xs[i]? = some x → Pv i H ys → g x σ0 H fun σ2 H2 => wk σ0 σ2 ∧ tYes σ2 H2 fun b H3 => if b = true then te σ2 H3 (NextC Pv xs.length D i ys) else ∃ m', m' < xs.length - i ∧ (m' = xs.length - (i + 1) ∧ i + 1 ≤ xs.length ∧ Pv (i + 1) H3 ys)) (hd : ∀ H ys, Pv xs.length H ys → QD H) :
    ∃ W : Nat → Nat → Hp → List V → Prop, (∃ m, W 0 m (upd H1 D (.lst [])) []) ∧ ∀ i m H ys, W i m H ys → H D = some (.lst ys) ∧ (((Itt K a).stop i H ∧ QD H) ∨ ((Itt K a).go i H ∧ ∀ x H', (Itt K a).yld i H x H' → g x σ0 H' fun σ2 H2 => wk σ0 σ2 ∧ tYes σ2 H2 fun b H3 =>
      if b = true then te σ2 H3 fun v H4 => H4 D = some (.lst ys) ∧ ys.length < sizeLine ∧ ∃ m', m' < m ∧ W (i + 1) m' (upd H4 D (.lst (ys ++ [v]))) (ys ++ [v]) else ∃ m', m' < m ∧ W (i + 1) m' H3 ys)) := by
  refine ⟨fun i m H ys => m = xs.length - i ∧ i ≤ xs.length ∧ Pv i H ys, ⟨xs.length, by simp, Nat.zero_le _, h0⟩, ?_⟩
  rintro i m H ys ⟨rfl, hi, p⟩
  obtain ⟨d1, d2⟩ := hD i H ys p
  refine ⟨d1, ?_⟩
  by_cases hlt : i < xs.length
  · refine .inr ⟨⟨xs, xs[i], d2, by simp [hlt]⟩, fun x H' y => ?_⟩
    obtain ⟨e, y⟩ := y
    subst e
    exact hs i x _ ys (y xs d2) p
  · have e : i = xs.length := by omega
    subst e
    exact .inl ⟨⟨xs, d2, Nat.le_refl _⟩, hd H ys p⟩
theorem s_tup {σ : St} {H : Hp} {tl : TE} {R : It → Hp → Prop} (q : tl σ H fun x H1 => ∃ a, x = .ref a ∧ (∃ xs, SqT K H1 a xs) ∧ R (Itt K a) H1) : iTup K tl σ H R := q
end
end L2
set_option Elab.async false
set_option linter.all false
set_option maxRecDepth 100000
set_option maxHeartbeats 4000000
namespace L2
open PySem PySem.Spec PyProof.Rows
section
variable {X : Cx}
end
end L2
set_option Elab.async false
set_option linter.all false
set_option maxRecDepth 100000
set_option maxHeartbeats 4000000
namespace L2
open PySem PySem.Spec PyProof.Rows
section
variable {X : Cx}
end
section
variable {K : PySem.W.Frag} {g : TG} {te : TE} {tt : TT} {σ0 : St} {QD : Hp → Prop} {H1 : Hp} {D : Addr}
end
end L2
set_option Elab.async false
set_option linter.all false
set_option maxRecDepth 100000
set_option maxHeartbeats 4000000
namespace L2
open PySem PySem.Spec PyProof.Rows
open AutoSeq1 (wpAny_loadPart')
theorem dict_declines_str (l : Addr) (es : Array DictEntry) (ep : Nat) (dd : Option Addr) (sl : Array (Option Value)) (b : Str) (u : Tok) :
    Meets (Builtin.«dict.__eq__» ⟨[.ref l, .str b u], []⟩) (fun _ R s => s.heap.get? l = some { cls := .type "dict", dict := dd, data := .dict es ep, slots := sl } ∧ R (.ok (.ret .notImplemented)) s) :=
  .of_wp fun prog w A R s h => by obtain ⟨hp, g, d, tk, os⟩ := s; obtain ⟨hl, h⟩ := h; have f1 := F.sub_str_dict; wp_walk using wpAny_loadPart' hl; exact ⟨_, rfl, h⟩
theorem str_declines_dict (b : Str) (u : Tok) (l : Addr) (es : Array DictEntry) (ep : Nat) (dd : Option Addr) (sl : Array (Option Value)) :
    Meets (Builtin.«str.__eq__» ⟨[.str b u, .ref l], []⟩) (fun _ R s => s.heap.get? l = some { cls := .type "dict", dict := dd, data := .dict es ep, slots := sl } ∧ R (.ok (.ret .notImplemented)) s) :=
  .of_wp fun prog w A R s h => by obtain ⟨hp, g, d, tk, os⟩ := s; obtain ⟨hl, h⟩ := h; wp_walk using wpAny_loadPart' hl, wpAny_load hl; exact ⟨_, rfl, h⟩
section
variable {A : Around} {s : Shared} {l : Addr}
noncomputable def DictHere (s : Shared) (l : Addr) : Prop := ∃ o es ep, s.heap.get? l = some o ∧ o.cls = .type "dict" ∧ o.data = .dict es ep
theorem rc_dict_str (b : Str) (u : Tok) (hl : DictHere s l) (hu : A.units < cLine) : SeqAt.RcAt A s (.ref l) (.str b u) false := fun prog w E Q h => by
  obtain ⟨⟨cls, dd, data, sl⟩, es, ep, ho, hc, hd⟩ := hl
  simp only at hc hd
  subst hc hd
  exact SeqAt.rc_eq_decline_or (k := false) ⟨_, ho, rfl⟩ (typeIs_str s b u) (by decide) F.sub_str_dict F.slot_dict_eq F.slot_str_eq_refl
    (fun _ hq => call_meets F.slot_dict_eq ⟨_, ho, rfl⟩ F.entry_dict_eq (F.args_dict_eq_2 _ _) (dict_declines_str l es ep dd sl b u) ⟨ho, hq⟩)
    (fun _ hq => call_meets F.slot_str_eq_refl (typeIs_str s b u) F.entry_str_eq (F.args_str_eq_2 _ _) (str_declines_dict b u l es ep dd sl) ⟨ho, hq⟩)
    (fun _ hq => wpAny_of_eq (rfl : isSame (.ref l) (.str b u) = pure false) hq) (.inr hu) h
theorem rc_str_dict (b : Str) (u : Tok) (hl : DictHere s l) (hu : A.units < cLine) : SeqAt.RcAt A s (.str b u) (.ref l) false := fun prog w E Q h => by
  obtain ⟨⟨cls, dd, data, sl⟩, es, ep, ho, hc, hd⟩ := hl
  simp only at hc hd
  subst hc hd
  exact SeqAt.rc_eq_decline_or (k := false) (typeIs_str s b u) ⟨_, ho, rfl⟩ (by decide) F.sub_dict_str F.slot_str_eq F.slot_dict_eq_refl
    (fun _ hq => call_meets F.slot_str_eq (typeIs_str s b u) F.entry_str_eq (F.args_str_eq_2 _ _) (str_declines_dict b u l es ep dd sl) ⟨ho, hq⟩)
    (fun _ hq => call_meets F.slot_dict_eq_refl ⟨_, ho, rfl⟩ F.entry_dict_eq (F.args_dict_eq_2 _ _) (dict_declines_str l es ep dd sl b u) ⟨ho, hq⟩)
    (fun _ hq => wpAny_of_eq (rfl : isSame (.str b u) (.ref l) = pure false) hq) (.inr hu) h
theorem eq_str_dict (b : Str) (u : Tok) (hl : DictHere s l) (hu : A.units < cLine) : SeqAt.EqAt A s (.str b u) (.ref l) false := fun prog w E Q h => by
  unfold eqBool
  refine wpAny_holding ?_
  refine wpAny_ite_split (fun hab => absurd (eq_of_beq hab) nofun) (fun _ => ?_)
  exact wpAny_bind (rc_str_dict b u hl hu prog w E _ (wpAny_truthy_bool h))
end
noncomputable def HeapK (K : PySem.W.Frag) (H : Hp) (a : Addr) : Prop := (∃ xs, SqL K H a xs) ∨ (∃ xs, SqT K H a xs) ∨ ∃ kvs, H a = some (.dK kvs)
section
variable {X : Cx}
theorem dict_here {pins : List (Addr × Obj)} {σ : St} {H : Hp} {s : Shared} (I : Inv X pins σ H s) {a : Addr} {kvs : List (Key × V)} (e : H a = some (.dK kvs)) : DictHere s a := by
  obtain ⟨_, _, vs, _, o, es, ep, h1, h2, h3, _⟩ := dk_of I.hok e
  exact ⟨o, es, ep, h1, h2.1, h3⟩
noncomputable def rEqTx (K : PySem.W.Frag) : R2 := fun x y H Q => (scal x y = true ∧ Q (.bl (decide (x = y))) H) ∨ ∃ a z, x = .ref a ∧ y = .str z ∧ HeapK K H a ∧ Q (.bl false) H
theorem op_eqTx (hu : X.A.units + 64 < cLine) : OpR X (compareOp .Eq) (rEqTx X.K) := by
  intro pins s σ H x y v u Q I rx ry h
  rcases h with h | ⟨a, z, rfl, rfl, hk, q⟩
  · exact op_eq pins s σ H x y v u Q I rx ry h
  · cases rx
    obtain ⟨t, rfl⟩ := ry
    have q' : EP X pins σ Q (.bool false) s := ⟨.bl false, H, I, rfl, q⟩
    rcases hk with ⟨xs, hk⟩ | ⟨xs, hk⟩ | ⟨kvs, hk⟩
    · obtain ⟨its, _, p, _⟩ := I.list hk
      exact SeqAt.RcAt.list_str z t p.isList (by omega) _ _ _ _ q'
    · obtain ⟨its, _, p, _⟩ := I.tuple hk
      exact SeqAt.RcAt.tuple_str z t (show s.heap.IsTuple a its.toArray from p) (by omega) _ _ _ _ q'
    · exact rc_dict_str z t (dict_here I hk) (by omega) _ _ _ _ q'
noncomputable def rInTx (K : PySem.W.Frag) : R2 := fun x y H Q => ∃ p, ∃ zs : List Str, y = .ref p ∧ SqL K H p (zs.map V.str) ∧ ((flatV x = true ∧ Q (.bl (inV x (zs.map V.str))) H) ∨ ∃ a, x = .ref a ∧ HeapK K H a ∧ Q (.bl false) H)
theorem flat_strs' (zs : List Str) : (zs.map V.str).all flatV = true := by simp [flatV]
theorem op_inTx (hu : X.A.units + 64 < cLine) : OpR X (compareOp .In) (rInTx X.K) := by
  intro pins s σ H x y v u Q I rx ry h
  obtain ⟨p, zs, rfl, hp, h⟩ := h
  rcases h with ⟨fx, q⟩ | ⟨a, rfl, hk, q⟩
  · exact op_in_seq pins s σ H x _ v u Q I rx ry ⟨p, _, rfl, .inl hp, fx, flat_strs' zs, q⟩
  · cases rx
    cases ry
    obtain ⟨its, r, pl, _⟩ := I.list hp
    refine SeqAt.in_listAt (fun _ => false) pl.isList (fun w hw => ?_) ⟨.bl _, H, I, rfl, ?_⟩
    · have hw : w ∈ its := by simpa using hw
      obtain ⟨j, hj, ej⟩ := List.mem_iff_getElem.mp hw
      have l := r.length
      rw [List.length_map] at l
      obtain ⟨w', e', rw'⟩ := r.get (show (zs.map V.str)[j]? = some (.str zs[j]) by rw [List.getElem?_map, List.getElem?_eq_getElem (by omega)]; rfl)
      rw [List.getElem?_eq_getElem hj, ej] at e'
      cases e'
      obtain ⟨t, rfl⟩ := rw'
      have hu' : X.A.in1.units < cLine := by show X.A.units + 1 < cLine; omega
      rcases hk with ⟨xs, hk⟩ | ⟨xs, hk⟩ | ⟨kvs, hk⟩
      · obtain ⟨its, _, p, _⟩ := I.list hk
        exact SeqAt.EqAt.str_list _ _ p.isList hu'
      · obtain ⟨its, _, p, _⟩ := I.tuple hk
        exact SeqAt.EqAt.str_tuple _ _ (show s.heap.IsTuple a its.toArray from p) hu'
      · exact eq_str_dict _ _ (dict_here I hk) hu'
    · have : its.toArray.any (fun _ => false) = false := by simp
      rw [this]
      exact q
noncomputable def rEqSm (K : PySem.W.Frag) : R2 := fun x y H Q => ((x = y ∧ scal x x = true) ∨ (∃ a b xs ys, x = .ref a ∧ y = .ref b ∧ SqL K H a xs ∧ SqL K H b ys ∧ xs.length = ys.length ∧ ∀ (j : Nat) x y, xs[j]? = some x → ys[j]? = some y → EqD K H 50 x y true) ∨
  (∃ a b xs ys, x = .ref a ∧ y = .ref b ∧ SqT K H a xs ∧ SqT K H b ys ∧ xs.length = ys.length ∧ ∀ (j : Nat) x y, xs[j]? = some x → ys[j]? = some y → EqD K H 50 x y true) ∨ (∃ a, x = .ref a ∧ y = .ref a ∧ H a = some (.dK []))) ∧ Q (.bl true) H
theorem op_eqSm (hu : X.A.units + 64 < cLine) : OpR X (compareOp .Eq) (rEqSm X.K) := by
  intro pins s σ H x y v u Q I rx ry h
  obtain ⟨h, q⟩ := h
  have q' : EP X pins σ Q (.bool true) s := ⟨.bl true, H, I, rfl, q⟩
  have al : ∀ n, (List.range n).all (fun _ => true) = true := fun n => by simp
  rcases h with ⟨rfl, hs⟩ | ⟨a, b, xs, ys, rfl, rfl, ha, hb, hl, hi⟩ | ⟨a, b, xs, ys, rfl, rfl, ha, hb, hl, hi⟩ | ⟨a, rfl, rfl, e⟩
  · exact op_eq pins s σ H x x v u Q I rx ry ⟨hs, by rw [decide_eq_true rfl]; exact q⟩
  · cases rx
    cases ry
    obtain ⟨its, r1, p1, _⟩ := I.list ha
    obtain ⟨its2, r2, p2, _⟩ := I.list hb
    have l1 := r1.length
    have l2 := r2.length
    refine SeqAt.eq_listAt (e := fun _ => true) p1.isList p2.isList (by rw [List.size_toArray, List.size_toArray]; omega) (by omega) (EqD.items I (by omega) r1 r2 hi) ?_
    rw [al]; exact q'
  · cases rx
    cases ry
    obtain ⟨its, r1, p1, _⟩ := I.tuple ha
    obtain ⟨its2, r2, p2, _⟩ := I.tuple hb
    have l1 := r1.length
    have l2 := r2.length
    refine SeqAt.eq_tupleAt (e := fun _ => true) (show s.heap.IsTuple a its.toArray from p1) (show s.heap.IsTuple b its2.toArray from p2) (by omega) (EqD.items I (by omega) r1 r2 hi) ?_
    rw [al, List.size_toArray, List.size_toArray, ← l1, ← l2, hl]
    simpa using q'
  · cases rx
    cases ry
    obtain ⟨_, hs, vs, kv, dd⟩ := dk_of I.hok e
    cases kv
    refine PySem.W.keq_eq (r := true) hs hs dd dd (by omega) (fun _ => .nil) ?_
    exact q'
noncomputable def stripR (y z : Str) : Str := if stripSame y.cps.contains true true z then z else stripped y.cps.contains true true z
noncomputable def rStrip : V → List V → Hp → VK → Prop := fun x vs H Q => ∃ (z y : Str), x = .str z ∧ vs = [.str y] ∧ z.length ≤ sizeLine ∧ Q (.str (stripR y z)) H
theorem mt_strip : MtR X "str.strip" rStrip := by
  intro pins s σ H x vs v us Q I rx rv h
  obtain ⟨z, y, rfl, rfl, hz, q⟩ := h
  obtain ⟨t, rfl⟩ := rx
  obtain ⟨u1, rfl, u, rfl⟩ := vals1 rv
  refine call_gives F.slot_str_strip (typeIs_str _ _ _) F.entry_str_strip (F.args_str_strip_2 _ _) (gives_str_strip_chars z y t u) ?_
  unfold stripR at q
  cases c : stripSame y.cps.contains true true z
  · rw [c, if_neg (by decide)] at q
    rw [if_neg (by decide)]
    exact ⟨fits_stripped _ _ _ hz, ⟨.str _, H, I.tok _, ⟨_, rfl⟩, q⟩⟩
  · rw [c, if_pos rfl] at q
    rw [if_pos rfl]
    exact ⟨.str _, H, I, ⟨_, rfl⟩, q⟩
theorem tw_all {p : Nat → Bool} : ∀ {xs : List Nat}, (∀ x ∈ xs, p x = true) → xs.takeWhile p = xs
  | [], _ => rfl
  | x :: xs, h => by rw [List.takeWhile_cons, if_pos (h x (by simp)), tw_all fun y hy => h y (List.mem_cons_of_mem _ hy)]
theorem tw_le {p : Nat → Bool} : ∀ {xs : List Nat} {i : Nat} {x : Nat}, xs[i]? = some x → p x = false → (xs.takeWhile p).length ≤ i
  | y :: xs, 0, x, e, h => by
    cases e
    rw [List.takeWhile_cons, h]
    exact Nat.le_refl 0
  | y :: xs, i + 1, x, e, h => by
    rw [List.takeWhile_cons]
    have := tw_le (xs := xs) (i := i) (x := x) (by simpa using e) h
    split
    · rw [List.length_cons]; omega
    · exact Nat.zero_le _
theorem strip_nil {y z : Str} : (stripR y z = Str.empty) ↔ ∀ c ∈ z.cps.toList, y.cps.contains c = true := by
  have zl : z.cps.toList.length = z.length := Array.length_toList ..
  have nil : ∀ w : Str, w = Str.empty ↔ w.length = 0 := fun w => ⟨fun h => by rw [h]; rfl, fun h => by
    obtain ⟨a⟩ := w
    exact congrArg Str.mk (Array.size_eq_zero_iff.mp h)⟩
  constructor
  · intro h c hc
    by_cases hb : y.cps.contains c = true
    · exact hb
    have hb : y.cps.contains c = false := by simpa using hb
    exfalso
    rw [nil] at h
    obtain ⟨i, hi, ei⟩ := List.mem_iff_getElem.mp hc
    have e1 : z.cps.toList[i]? = some c := by rw [List.getElem?_eq_getElem hi, ei]
    have lo := tw_le e1 hb
    unfold stripR at h
    split at h
    · omega
    · unfold stripped stripHi stripLo at h
      simp only [if_true] at h
      generalize hL : (z.cps.toList.takeWhile y.cps.contains).length = L at *
      have e2 : ((z.cps.toList.drop L).reverse)[z.length - 1 - i]? = some c := by
        rw [List.getElem?_reverse (by rw [List.length_drop]; omega), List.length_drop, List.getElem?_drop]
        rw [show L + (z.cps.toList.length - L - 1 - (z.length - 1 - i)) = i by omega]
        exact e1
      have hi2 := tw_le e2 hb
      rw [size_strSub _ _ _ (by omega)] at h
      omega
  · intro h
    rw [nil]
    unfold stripR
    have e1 := tw_all h
    split
    · rename_i c
      unfold stripSame at c
      simp only [Bool.and_eq_true, beq_iff_eq] at c
      have := c.1
      unfold stripLo at this
      rw [if_pos rfl, e1] at this
      omega
    · unfold stripped stripHi stripLo
      simp only [if_true]
      rw [e1, size_strSub _ _ _ (by omega)]
      omega
end
end L2
set_option Elab.async false
set_option linter.all false
set_option maxRecDepth 100000
set_option maxHeartbeats 4000000
namespace L2
open PySem PySem.Spec PyProof.Rows
noncomputable def partV (z : Str) : V := if z = "wire" then .int 2 else if z = "not" then .int 2 else if z = "and" then .int 3 else if z = "or" then .int 3 else .non
noncomputable def tParts2 (ty : TE) : TE := fun σ H Q => ty σ H fun y H1 => ∃ z : Str, y = .str z ∧ Q (partV z) H1
section
variable {X : Cx} {o e : Expr} {apos cpos : Pos} {ty : TE} {T : Addr}
theorem pe_parts2 (hT : tabAt X.K T partsD) (ho : PE X o (tC (.ref T))) (he : PE X e ty) (m : M1 X o "get" apos e cpos) : PE X (.Call (.Attribute o "get" apos) [e] [] cpos) (tParts2 ty) := by
  intro pins s σ H Q I h
  refine wpAny_Call_method m.base m.few m.line PySem.F.plainAttrs_dict PySem.F.slot_dict_get PySem.F.type_dict_get (thn (ho pins s σ H (fun x H1 => x = .ref T ∧ H1 = H) I ⟨rfl, rfl⟩) fun u s1 z => ?_)
  obtain ⟨x, H1, I1, rx, ex, eh⟩ := z
  subst ex eh
  obtain rfl : u = Value.ref T := rx
  have here : ∀ {s' : Shared} {H' : Hp}, Inv X pins σ H' s' → KTD.Here X.base s'.heap T partsD := fun J => ⟨KTD.text_of_look (get := fun a => X.K.lookup a) (fun a o e => J.mod.kin a o e) hT, J.bk⟩
  refine ⟨(here I1).typeIs, (here I1).noDict, ?_⟩
  rw [m.trees]
  refine Calls.callWith_builtin rfl (Calls.evalArgs_plain (Calls.spliced_cons (thn (he pins s1 σ H1 _ I1 h) fun iv s2 z => Calls.spliced_nil ?_)))
  obtain ⟨y, H2, I2, ry, z, ey, q2⟩ := z
  subst ey
  obtain ⟨t, e⟩ := ry
  subst e
  unfold partV at q2
  by_cases c1 : z = "wire"
  · rw [if_pos c1] at q2
    refine KTD.get1_textL (here I2) (by rw [c1]; decide +kernel) ?_
    simp only [KTD.EachL, decide_eq_true c1, if_true]
    exact fun t => ⟨.int 2, H2, I2.tok _, ⟨_, rfl⟩, q2⟩
  rw [if_neg c1] at q2
  by_cases c2 : z = "not"
  · rw [if_pos c2] at q2
    refine KTD.get1_textL (here I2) (by rw [c2]; decide +kernel) ?_
    simp only [KTD.EachL, decide_eq_false c1, decide_eq_true c2, if_true, Bool.false_eq_true, if_false]
    exact fun t => ⟨.int 2, H2, I2.tok _, ⟨_, rfl⟩, q2⟩
  rw [if_neg c2] at q2
  by_cases c3 : z = "and"
  · rw [if_pos c3] at q2
    refine KTD.get1_textL (here I2) (by rw [c3]; decide +kernel) ?_
    simp only [KTD.EachL, decide_eq_false c1, decide_eq_false c2, decide_eq_true c3, if_true, Bool.false_eq_true, if_false]
    exact fun t => ⟨.int 3, H2, I2.tok _, ⟨_, rfl⟩, q2⟩
  rw [if_neg c3] at q2
  by_cases c4 : z = "or"
  · rw [if_pos c4] at q2
    refine KTD.get1_textL (here I2) (by rw [c4]; decide +kernel) ?_
    simp only [KTD.EachL, decide_eq_false c1, decide_eq_false c2, decide_eq_false c3, Bool.false_eq_true, if_false]
    exact fun _ t => ⟨.int 3, H2, I2.tok _, ⟨_, rfl⟩, q2⟩
  rw [if_neg c4] at q2
  refine KTD.get1_text (here I2) ?_
  simp only [KTD.Each, decide_eq_false c1, decide_eq_false c2, decide_eq_false c3, decide_eq_false c4, Bool.false_eq_true, if_false]
  exact ⟨.non, H2, I2.tok _, rfl, q2⟩
end
end L2
set_option Elab.async false
set_option linter.all false
set_option maxRecDepth 100000
set_option maxHeartbeats 4000000
namespace L2
open PySem PySem.Spec PyProof.Rows
section
variable {X : Cx}
theorem count_rel {y : Str} : ∀ {xs : List Str} {its : List Value}, Vals (xs.map V.str) its → its.countP (isStrOf y) = xs.count y
  | [], _, r => by
    rw [List.map_nil] at r; cases r; rfl
  | x :: xs, _, r => by
    rw [List.map_cons] at r
    cases r with
    | cons r1 r2 =>
      obtain ⟨t, rfl⟩ := r1
      rw [List.countP_cons, List.count_cons, count_rel r2]
      rfl
noncomputable def rCount : V → List V → Hp → VK → Prop := fun x vs H Q => ∃ (l : Addr) (xs : List Str) (y : Str), x = .ref l ∧ vs = [.str y] ∧ H l = some (.lst (xs.map V.str)) ∧ Q (.int (xs.count y : Nat)) H
theorem mt_count : MtR X "list.count" rCount := by
  intro pins s σ H x vs v us Q I rx rv h
  obtain ⟨l, xs, y, rfl, rfl, hH, q⟩ := h
  cases rx
  obtain ⟨u, rfl, t, rfl⟩ := vals1 rv
  obtain ⟨z, its, n, r, hl, e⟩ := I.lstM hH
  have sa := strsAre_of r
  refine call_meets F.slot_list_count ⟨_, e, rfl⟩ F.entry_list_count (F.args_list_count_2 _ _) (MeetsSeq.list_count l its.toArray n (.str y t) (isStrOf y) (fun v hv => eq_isStrOf y t sa v (by simpa using hv))) ⟨e, ?_⟩
  have ec := count_rel (y := y) r
  exact ⟨.int (xs.count y : Nat), H, I.tok _, ⟨s.toks, by rw [← ec]⟩, q⟩
theorem op_notB : OpR X (compareOp .IsNot) (fun x y H Q => ∃ b c, x = .bl b ∧ y = .bl c ∧ Q (.bl (b != c)) H) := by
  intro pins s σ H x y v u Q I rx ry h
  obtain ⟨b, c, rfl, rfl, q⟩ := h
  cases rx
  cases ry
  exact isnot_bool (fin_bl I q rfl)
theorem pe_bmK {K : PySem.W.Frag} {o e : Expr} {es : List Expr} {to : TE} {t : TA} {name : Str} {apos cpos : Pos} {T id : String} {r : V → List V → Hp → VK → Prop} (hK : X.K = K) (pa : PlainAttrs T) (slot : Slot T name id) (hty : typeOf (.builtin id) = pure (.type "method_descriptor")) (hm : MtR X id r) (ho : PE X o to) (ha : PA X (e :: es) t)
    (hbase : attributeBase o name X.env (eval o X.env) = eval o X.env := by rfl)
    (hfew : ((backTo cpos (starEach (e :: es) X.env)).all (fun x => !x.1) && (backToKw cpos (keywordEach [] X.env)).all (fun x => x.1.isSome)
      && decide ((e :: es).length + ([] : List Keyword).length + (if ([] : List Keyword).isEmpty then 0 else 1) < 30)) = true := by rfl)
    (hline : (apos.endLine == cpos.line) = true := by rfl) (hs : starEach (e :: es) X.env = (false, eval e X.env) :: starEach es X.env := by rfl) (hplain : (backTo cpos (starEach es X.env)).any (·.1) = false := by rfl) :
    PE X (.Call (.Attribute o name apos) (e :: es) [] cpos) (tBM K T r to t) := by
  subst hK
  exact pe_bm pa slot hty hm ho ha hbase hfew hline hs hplain
end
end L2
set_option Elab.async false
set_option linter.all false
set_option maxRecDepth 100000
set_option maxHeartbeats 4000000
namespace L2
open PySem PySem.Spec PyProof.Rows
section
variable {X : Cx} {scope : Scope} {tgs : List Str} {cap : List (Str × Nat)}
theorem ps_lc {j : Nat} {x : Str} {pos' spos : Pos} {elt tg iter : Expr} {ifs : List Expr} {pos : Pos} {wi : TI} {g : TG} {tt : TT} {te : TE} (hN : X.N.Nodup) (hj : X.N[j]? = some x) (hx : Loc X.env.scope x) (hc : X.calm = true) (B : BlockOk X scope tgs cap) (hi : PI X tg iter wi)
    (hg : ∀ C s H fp, PG (X.block (tgs ++ cap.map (·.1)) scope C s H fp) tg g) (ht : ∀ C s H fp, PIfs (X.block (tgs ++ cap.map (·.1)) scope C s H fp) ifs tt) (he : ∀ C s H fp, PE (X.block (tgs ++ cap.map (·.1)) scope C s H fp) elt te)
    (hs : ∀ x, foldedSetIterable iter X.env x = pure x := by intro _; rfl) (hsw : swapsWith (.ListComp elt [⟨tg, iter, ifs, 0⟩] scope pos) (some (.Name x pos')) spos.line X.env = pure true := by rfl)
    (hf : X.fn x = true ∨ X.env.scope.names.lookup x = some .local := by first | exact .inl rfl | exact .inr rfl | assumption) : PS X (.Assign [.Name x pos'] (.ListComp elt [⟨tg, iter, ifs, 0⟩] scope pos) spos) (tAsg (tComp wi g tt te (blockSt tgs cap)) (gName j)) := by
  intro pins s σ H D I h
  rw [exec_Assign_Name_used _ _ _ _ hsw]
  refine wpAny_bind (wpAny_standAt (wpAny_bind ?_))
  show wpAny _ _ (comprehension _ _ _ _ _ _ _ _ >>= _) _ _ _
  refine wpAny_bind (thn (Q := fun _ s' => SP X pins D .next s') ?_ fun _ s' q => wpAny_pure (wpAny_pure q))
  refine wpAny_comprehension_free (use := some (assign (.Name x pos') X.env)) rfl hs (closure_eq (B.cellAt I.ok)) B.kind B.locs (thn (hi pins s σ H _ I h) fun v s1 h1 => thn h1 fun itv s2 h2 => ?_)
  obtain ⟨it, fp, tn, J, H2, e, I2, T, st2, f2, q⟩ := h2
  subst e
  have lt2 : ∀ b ∈ fp, b < s2.heap.objs.size := fun b hb => let ⟨o, e, _⟩ := T.obj _ _ st2 b hb; Heap.lt_size e
  have hD : H2 s2.heap.objs.size = none := I2.hok.fresh (Nat.le_refl _)
  obtain ⟨W, ⟨m0, w0⟩, turn⟩ := q s2.heap.objs.size hD
  refine wpAny_newObj_type ?_
  have I3 : Inv X pins σ (upd H2 s2.heap.objs.size (.lst [])) { s2 with heap := s2.heap.push { cls := .type "list", dict := none, data := .seq ([] : List Value).toArray } } := I2.lnew (t' := s2.toks) (ys := []) (its := []) .nil (Nat.zero_le _)
  have st3 : tn 0 (s2.heap.push { cls := .type "list", dict := none, data := .seq ([] : List Value).toArray }) := T.keep _ _ _ st2 fun b _ o e => Heap.get?_push_of_some _ e
  have nD : ∀ b ∈ fp, b ≠ s2.heap.objs.size := fun b hb => Nat.ne_of_lt (lt2 b hb)
  have f3 : ∀ b ∈ fp, FpOk X pins (upd H2 s2.heap.objs.size (.lst [])) b := fun b hb => ⟨by rw [upd_ne (nD b hb)]; exact (f2 b hb).1, (f2 b hb).2⟩
  generalize hs3 : ({ s2 with heap := s2.heap.push { cls := .type "list", dict := none, data := .seq ([] : List Value).toArray } } : Shared) = s3 at I3 st3 ⊢
  have st3' : tn 0 s3.heap := by rw [← hs3]; exact st3
  have lt3 : ∀ b ∈ fp, b < s3.heap.objs.size := fun b hb => let ⟨o, e, _⟩ := T.obj _ _ st3' b hb; Heap.lt_size e
  generalize hH3 : upd H2 s2.heap.objs.size (.lst []) = H3 at I3 f3 w0
  generalize s2.heap.objs.size = DD at *
  refine wpAny_newFunctionEnv B.noc (by intro y hy; simp at hy) (fun h1 hns hsb => ?_) B.kind
  have old : ∀ b o, s3.heap.get? b = some o → h1.get? b = some o := fun b o e => hsb.extBut b o (Nat.ne_of_lt (Heap.lt_size e)) (Heap.get?_push_of_some _ e)
  have I4 := Inv.enter (tk := s3.toks + ([] : List (Str × Value)).length) (h1 := h1) B I3 f3 lt3 hns old
  have st4 : tn 0 h1 := T.keep _ _ _ st3' fun b _ o e => old b o e
  have fpB : ∀ {H' : Hp}, (∀ b ∈ fp, H' b = none) → ∀ b ∈ fp, FpOk (X.block (tgs ++ cap.map (·.1)) scope s3.heap.objs.size s3 H3 fp) [] H' b := fun {H'} hn b hb =>
    ⟨hn b hb, Nat.ne_of_lt (lt3 b hb), I4.ok.exfs b hb, .inl hb, fun x c e => (I4.ok.exf b hb).2 x c e, fun p hp => absurd (show p ∈ ([] : List (Addr × Obj)) from hp) (by simp)⟩
  have loop : codeAny (model X.prog X.w) X.A (.compLoop (.ListComp elt [⟨tg, iter, ifs, 0⟩] scope pos) 0 (.ref it) (.ref DD) (compEnvC scope (clsOf X.env scope.names []) s3.heap.objs.size X.env))
      (compPost (model X.prog X.w) X.A X.xe (some (assign (.Name x pos') X.env)) (fun _ s' => SP X pins D .next s') (.ref DD) s3.heap.objs.size) { s3 with heap := h1, toks := s3.toks + ([] : List (Str × Value)).length } := by
    refine compLoop_any (fun n s' => ∃ i H' ys, Inv (X.block (tgs ++ cap.map (·.1)) scope s3.heap.objs.size s3 H3 fp) [] (blockSt tgs cap σ) H' s' ∧ tn i s'.heap ∧ (∀ b ∈ fp, H' b = none) ∧ W i n H' ys) ?_ m0 ⟨0, H3, [], I4, st4, fun b hb => (f3 b hb).1, w0⟩
    rintro n s5 ⟨i, H5, ys, I5, st5, fr5, w5⟩
    obtain ⟨hl, ht5⟩ := turn i n H5 ys w5
    rcases ht5 with ⟨stop, qd⟩ | ⟨go, step⟩
    · refine thn (T.done (X.block (tgs ++ cap.map (·.1)) scope s3.heap.objs.size s3 H3 fp) rfl rfl rfl hc i [] s5 _ H5 _ I5 (fpB fr5) st5 stop) fun r s6 ⟨hr, I6⟩ => ?_
      subst hr
      obtain ⟨m6, n6, _⟩ := I6.loc
      have IO : Inv X pins σ H5 s6 := Inv.leave (h2 := s6.heap) I3 f3 I6 ⟨rfl, fun _ _ => rfl⟩
      have fC : FpOk X pins H5 s3.heap.objs.size := ⟨I6.free, (I3.fpOk (Nat.le_refl _) (I3.hok.fresh (Nat.le_refl _))).2⟩
      obtain ⟨f0, f1, f2', f3', f4, f5⟩ := fC
      refine wpAny_assign_Name (store_ok2 IO hN hj hx (show RelV (.ref DD) (.ref DD) from rfl) (fun s7 I7 ⟨a, sb, ha⟩ => ?_) hf)
      have na : s3.heap.objs.size ≠ a := by
        rcases ha with z | z
        · rw [z]; exact f1
        · exact fun y => f4 x a z y.symm
      obtain ⟨o6, es6, ep6, ho6, r6⟩ := n6
      refine ⟨m6, ⟨o6, es6, ep6, (sb.2 _ na).trans ho6, r6⟩, fun h' hs' => ⟨_, H5, I7.turned (t' := s7.toks) (fun b o hb q => (hs'.2 b hb).trans q) f0 f1 f3' f4 f5, qd⟩⟩
    · refine thn (T.item (X.block (tgs ++ cap.map (·.1)) scope s3.heap.objs.size s3 H3 fp) rfl rfl rfl hc i [] s5 _ H5 _ I5 (fpB fr5) st5 go) fun r s6 ⟨u, hr, h6⟩ => ?_
      subst hr
      refine thn h6 fun _ s7 ⟨x, H7, I7, r7, y7, st7, fr7⟩ => ?_
      have I7' := I7.pinned (fpB fr7) (T.obj _ _ st7)
      have again : ∀ {σ8 : St} {H8 : Hp} {s8 : Shared} {ys8 : List V}, Inv (X.block (tgs ++ cap.map (·.1)) scope s3.heap.objs.size s3 H3 fp) ([] ++ pinsAt fp s7.heap) σ8 H8 s8 → wk (blockSt tgs cap σ) σ8 → (∃ m', m' < n ∧ W (i + 1) m' H8 ys8) →
          ∃ m, m < n ∧ ∃ i H' ys, Inv (X.block (tgs ++ cap.map (·.1)) scope s3.heap.objs.size s3 H3 fp) [] (blockSt tgs cap σ) H' s8 ∧ tn i s8.heap ∧ (∀ b ∈ fp, H' b = none) ∧ W i m H' ys := fun {σ8 H8 s8 ys8} I8 k8 ⟨m', hm, w8⟩ => by
        refine ⟨m', hm, i + 1, H8, ys8, I8.unpinned.weak (wk_len k8) (wk_get k8), T.keep _ _ _ st7 fun b hb o e => (I8.pin (b, o) (List.mem_append_right _ (List.mem_append_right _ (mem_pinsAt hb e)))).1, fun b hb => ?_, w8⟩
        obtain ⟨o, e, d⟩ := T.obj _ _ st7 b hb
        exact (I8.pin (b, o) (List.mem_append_right _ (List.mem_append_right _ (mem_pinsAt hb e)))).2.1
      refine thn (hg _ _ _ _ _ s7 _ H7 x u _ I7' r7 (step x H7 y7)) fun _ s8 ⟨σ8, H8, I8, k8, q8⟩ => ?_
      refine thn (ht _ _ _ _ _ s8 σ8 H8 _ I8 q8) fun ok s9 ⟨H9, I9, q9⟩ => ?_
      cases ok with
      | false =>
        rw [if_neg Bool.false_ne_true] at q9 ⊢
        exact again I9 k8 q9
      | true =>
        rw [if_pos rfl] at q9 ⊢
        refine thn (he _ _ _ _ _ s9 σ8 H9 _ I9 q9) fun y sA ⟨yv, HA, IA, rA, hA, zA, qA⟩ => ?_
        exact thn (mt_append _ sA σ8 HA (.ref DD) [yv] (.ref DD) [y] (fun v H' => v = .non ∧ ∃ m', m' < n ∧ W (i + 1) m' H' (ys ++ [yv])) IA rfl (.cons rA .nil) ⟨DD, ys, yv, rfl, rfl, hA, zA, rfl, qA⟩) fun _ sB ⟨_, HB, IB, _, _, qB⟩ => again IB k8 qB
  exact codeAny_compStart_list loop (T.self _ 0 _ _ _ st4 loop)
end
end L2
set_option Elab.async false
set_option linter.all false
set_option maxRecDepth 100000
set_option maxHeartbeats 4000000
namespace L2
open PySem PySem.Spec PyProof.Rows
section
variable {X : Cx}
noncomputable def rInsertA : V → List V → Hp → VK → Prop := fun x vs H Q => ∃ l xs y, ∃ i : Nat, x = .ref l ∧ vs = [.int i, y] ∧ i ≤ xs.length ∧ i < 1000 ∧ H l = some (.lst xs) ∧ xs.length < sizeLine ∧ Q .non (upd H l (.lst (xs.take i ++ y :: xs.drop i)))
theorem vals_cut {y : V} {u : Value} (ru : RelV y u) : ∀ {xs : List V} {its : List Value} (i : Nat), Vals xs its → Vals (xs.take i ++ y :: xs.drop i) (its.take i ++ u :: its.drop i)
  | _, _, 0, r => .cons ru r
  | _, _, i + 1, .nil => .cons ru .nil
  | _, _, i + 1, .cons r1 r2 => .cons r1 (vals_cut ru i r2)
theorem mt_insertA : MtM X "list.insert" rInsertA := by
  intro pins s σ H x vs v us Q I rx rv h
  obtain ⟨l, xs, y, i, rfl, rfl, hi, hi2, hH, hz, q⟩ := h
  cases rx
  obtain ⟨u1, u, rfl, ru1, ru⟩ := vals2 rv
  obtain ⟨t, rfl⟩ := ru1
  obtain ⟨z, its, n, r, hl, e⟩ := I.lstM hH
  have fi : ¬(!Builtin.List.listFitsIndex (i : Int)) = true := by
    have this : Builtin.List.listFitsIndex (i : Int) = true := by
      show (decide (-(2 ^ 63 : Int) ≤ (i : Int)) && decide ((i : Int) < 2 ^ 63)) = true
      rw [decide_eq_true (by omega), decide_eq_true (by omega)]; rfl
    rw [this]
    exact fun h => nomatch h
  have hlen := r.length
  have hzz : its.toArray.size ≤ sizeLine := by rw [List.size_toArray]; omega
  generalize hk : (i : Int) = k at fi ⊢
  refine call_meets F.slot_list_insert ⟨_, e, rfl⟩ F.entry_list_insert (F.args_list_insert_3 _ _ _) (PySem.AutoListH.list_insert_list_int_val_1 l its.toArray n k t u fi hzz) ⟨e, ?_⟩
  refine ⟨.non, _, I.lset (its' := its.take i ++ u :: its.drop i) hH e ?_ (vals_cut ru i r) ?_, rfl, q⟩
  · dsimp only
    have e1 : (if k < 0 then (k + ((its.toArray.size : Nat) : Int)).toNat else min k.toNat its.toArray.size) = i := by
      rw [if_neg (by omega), List.size_toArray]; omega
    rw [e1]
    rw [← Array.toList_inj]
    have e2 : its.take its.length = its := List.take_length
    simp [List.extract_eq_drop_take, List.take_of_length_le]
  · rw [List.length_append, List.length_cons, List.length_take, List.length_drop]
    omega
end
end L2
set_option Elab.async false
set_option linter.all false
set_option maxRecDepth 100000
set_option maxHeartbeats 4000000
namespace K2
open PySem L2
theorem ix_tupK {X : Cx} {K : PySem.W.Frag} (h : X.K = K) : IxR X (rIxT K) := by subst h; exact ix_tup
theorem ix_listK {X : Cx} {K : PySem.W.Frag} (h : X.K = K) : IxR X (rIxL K) := by subst h; exact ix_list
noncomputable def top (i : Nat) : Stmt := PySem.Challenge.pw_anydelay_k01_what_is_a_net.main.body.getD i (.Pass ⟨0, 0, 0, 0⟩)
structure Txt (K : PySem.W.Frag) (mg : Str → Option Value) (TT : Addr) : Prop where
  n_len : mg "len" = none
  n_range : mg "range" = none
  n_max : mg "max" = none
  n_min : mg "min" = none
  n_int : mg "int" = none
  n_list : mg "list" = none
  n_str : mg "str" = none
  n_isinstance : mg "isinstance" = none
  n_all : mg "all" = none
  n_dict : mg "dict" = none
  n_zip : mg "zip" = none
  n_enumerate : mg "enumerate" = none
  n_abs : mg "abs" = none
  n_tuple : mg "tuple" = none
  n_set : mg "set" = none
  n_sorted : mg "sorted" = none
  n_bool : mg "bool" = none
  lETTERS : ∃ t, mg "LETTERS" = some (.str "abcdefghijklmnopqrstuvwxyz" t)
  mLETTERS : ∃ t, mg "MOST_LETTERS" = some (.int 8 t)
  mRULES : ∃ t, mg "MOST_RULES_WITHIN" = some (.int 10 t)
  mINPUTS : ∃ t, mg "MOST_INPUTS" = some (.int 4 t)
  mGATES : ∃ t, mg "MOST_GATES" = some (.int 7 t)
  pARTS : mg "PARTS_OF_RULE" = some (.ref TT)
  tab : tabAt K TT [("wire", .flat (.int 2)), ("not", .flat (.int 2)), ("and", .flat (.int 3)), ("or", .flat (.int 3))]
structure Dk where
  d : Addr
  p : Addr
  qs : List Addr
noncomputable def Dk.own (D : Dk) (b : Addr) : Prop := b = D.d ∨ b ∈ D.qs
structure Dk.At (D : Dk) (H : Hp) : Prop where
  hd : ∃ n : Int, H D.d = some (.lst [.ref D.p, .int n])
  hp : H D.p = some (.lst (D.qs.map V.ref))
  ne : D.qs ≠ []
  few : D.qs.length ≤ 63
  pools : ∀ q ∈ D.qs, ∃ a b c : Int, H q = some (.lst [.int a, .int b, .int c])
structure Kp (D : Dk) (H H' : Hp) : Prop where
  old : ∀ b o, H b = some o → ¬ D.own b → H' b = some o
  dk : D.At H'
noncomputable def spDraw : Sp := fun vs H Q _ => ∃ (D : Dk) (m : Int), vs = [.ref D.d, .int m] ∧ D.At H ∧ 1 ≤ m ∧ m ≤ 100000 ∧ ∀ (r : Int) H', 0 ≤ r → r < m → Kp D H H' → Q (.int r) H'
local macro_rules | `(tactic| walk_at "vc") => `(tactic| first
  | (with_reducible refine s_seq ?_) | (with_reducible refine s_asg ?_) | (with_reducible refine s_name ?_) | (with_reducible refine s_drop ?_) | (with_reducible refine s_ret ?_) | (with_reducible refine s_if ?_) | (with_reducible refine s_sub ?_) | (with_reducible refine s_next ?_)
  | ((with_reducible refine' i_var ?hv ?_); (case hv => exact rfl)) | (with_reducible refine i_c ?_) | (with_reducible refine i_op ?_) | (with_reducible refine i_rI0 ?_) | (with_reducible refine i_test ?_) | (with_reducible refine i_tB ?_) | (with_reducible refine i_and ?_) | (with_reducible refine i_or ?_)
  | (with_reducible refine i_not ?_) | (with_reducible refine i_andV ?_) | (with_reducible refine i_orV ?_) | (with_reducible refine i_notV ?_) | (with_reducible refine i_ifE ?_) | (with_reducible refine i_nil ?_) | (with_reducible refine i_cons ?_) | (with_reducible refine i_call ?_) | (with_reducible refine i_cb ?_)
  | (with_reducible refine i_tup ?_) | (with_reducible refine i_lst ?_) | (with_reducible refine i_bm ?_) | (with_reducible refine i_sl ?_) | (with_reducible refine i_nopart ?_) | (with_reducible refine i_part ?_) | ((with_reducible show ∃ i, V.int _ = V.int i ∧ _); (refine ⟨_, rfl, ?_⟩)) | ((with_reducible show ∃ k, V.bl _ = V.bl k ∧ _); (refine ⟨_, rfl, ?_⟩)) | ((with_reducible show (∃ i, [V.bl _] = [V.int i] ∧ _) ∨ _); (refine Or.inr ⟨_, rfl, ?_⟩))
  | (with_reducible refine s_for ?_) | (with_reducible refine s_rng1 ?_) | (with_reducible refine s_list ?_) | (with_reducible refine s_str ?_) | (with_reducible refine s_strI ?_) | (with_reducible refine i_comp ?_) | (with_reducible refine iteF ?_) | (with_reducible refine iteT ?_)
  | ((with_reducible refine' i_ixL ?ha ?hb ?_); (case ha => exact SqL.of (by assumption)); (case hb => exact rfl)) | ((with_reducible refine' i_ixT ?ha ?hb ?_); (case ha => assumption); (case hb => exact rfl))
  | ((with_reducible show ∃ p _, [V.ref _] = [V.ref p] ∧ (SqL _ _ _ _ ∨ SqT _ _ _ _) ∧ _); (refine' ⟨_, _, rfl, Or.inl (SqL.of ?ha), ?_⟩); (case ha => assumption)) | ((with_reducible refine' s_setL ?ha ?hb ?_); (case ha => assumption); (case hb => exact rfl))
  | ((with_reducible refine' i_eq ?ha ?_); (case ha => exact rfl)) | ((with_reducible refine' i_ne ?ha ?_); (case ha => exact rfl)))
theorem at_mod {qs : List Addr} (ne : qs ≠ []) (n : Int) : ∃ q ∈ qs, atI (qs.map V.ref) (n % (qs.map V.ref).length) = some (V.ref q) := by
  have hl : 0 < qs.length := by
    cases qs with
    | nil => exact absurd rfl ne
    | cons a r => simp
  have e1 : (qs.map V.ref).length = qs.length := by simp
  rw [e1]
  have h1 : 0 ≤ n % (qs.length : Int) := Int.emod_nonneg _ (by omega)
  have h2 : n % (qs.length : Int) < qs.length := Int.emod_lt_of_pos _ (by omega)
  have h3 : (n % (qs.length : Int)).toNat < qs.length := by omega
  refine ⟨qs[(n % (qs.length : Int)).toNat], List.getElem_mem h3, ?_⟩
  have e : n % (qs.length : Int) = (((n % (qs.length : Int)).toNat : Nat) : Int) := by omega
  have q := atI_nat (xs := qs.map V.ref) (j := (n % (qs.length : Int)).toNat) (v := V.ref qs[(n % (qs.length : Int)).toNat]) (by rw [List.getElem?_map, List.getElem?_eq_getElem h3]; rfl)
  rw [← e] at q
  exact q
theorem int_ne_ref {a b c : Int} {p : Addr} {n : Int} : HO.lst [.int a, .int b, .int c] ≠ HO.lst [.ref p, .int n] := by intro z; injection z with z; cases z
theorem kp_mk {D : Dk} {H H1 : Hp} {q : Addr} {n a b c : Int} (DA : D.At H) (hq : q ∈ D.qs) (o : ∀ b, b ≠ D.d → b ≠ q → H1 b = H b) (h1 : H1 D.d = some (.lst [.ref D.p, .int n])) (h2 : H1 q = some (.lst [.int a, .int b, .int c])) : Kp D H H1 := by
  obtain ⟨⟨n0, hd⟩, hp, ne, few, pools⟩ := id DA
  obtain ⟨u, r, er⟩ : ∃ u r, D.qs = u :: r := by
    cases e : D.qs with
    | nil => exact absurd e ne
    | cons u r => exact ⟨u, r, rfl⟩
  have npd : D.p ≠ D.d := fun z => by
    rw [z, hd, er] at hp
    have hp := Option.some.inj hp
    injection hp with hp
    cases r with
    | nil => simp at hp
    | cons v s => simp at hp
  have npq : ∀ x ∈ D.qs, D.p ≠ x := fun x hx z => by
    obtain ⟨a', b', c', h'⟩ := pools x hx
    rw [← z, hp, er] at h'
    have h' := Option.some.inj h'
    injection h' with h'
    simp at h'
  refine ⟨fun b u e nb => ?_, ⟨⟨n, h1⟩, ?_, ne, few, fun x hx => ?_⟩⟩
  · rw [o b (fun z => nb (.inl z)) fun z => nb (.inr (z ▸ hq))]; exact e
  · rw [o _ npd (npq q hq)]; exact hp
  · by_cases z : x = q
    · subst z; exact ⟨_, _, _, h2⟩
    · obtain ⟨a', b', c', h'⟩ := pools x hx
      have nxd : x ≠ D.d := ne_of h' hd int_ne_ref
      exact ⟨a', b', c', by rw [o x nxd z]; exact h'⟩
theorem small_mul {i : Int} (h1 : 0 ≤ i) (h2 : i < 100000000000) (j : Int) : CMul i j := .inl ⟨by omega, by omega⟩

inductive Rl where
  | w (n : Str) | no (r : Rl) | an (a b : Rl) | orr (a b : Rl)
noncomputable def Rl.ok (ns : List Str) : Rl → Prop
  | .w n => n ∈ ns
  | .no r => r.ok ns
  | .an a b => a.ok ns ∧ b.ok ns
  | .orr a b => a.ok ns ∧ b.ok ns
noncomputable def Rl.dep : Rl → Nat
  | .w _ => 1
  | .no r => r.dep + 1
  | .an a b => max a.dep b.dep + 1
  | .orr a b => max a.dep b.dep + 1
noncomputable def Rl.val (f : Str → Bool) : Rl → Bool
  | .w n => f n
  | .no r => !r.val f
  | .an a b => a.val f && b.val f
  | .orr a b => a.val f || b.val f
inductive RAt (H : Hp) : V → Rl → Prop where
  | w {a : Addr} {n : Str} : H a = some (.tup [.str "wire", .str n]) → RAt H (.ref a) (.w n)
  | no {a : Addr} {v : V} {r : Rl} : H a = some (.tup [.str "not", v]) → RAt H v r → RAt H (.ref a) (.no r)
  | an {a : Addr} {v u : V} {r s : Rl} : H a = some (.tup [.str "and", v, u]) → RAt H v r → RAt H u s → RAt H (.ref a) (.an r s)
  | orr {a : Addr} {v u : V} {r s : Rl} : H a = some (.tup [.str "or", v, u]) → RAt H v r → RAt H u s → RAt H (.ref a) (.orr r s)
noncomputable def KeepT (H H' : Hp) : Prop := ∀ b xs, H b = some (.tup xs) → H' b = some (.tup xs)
theorem Same.tups {H H' : Hp} (S : Same H H') : KeepT H H' := fun b xs e => S b _ e
theorem RAt.mono {H H' : Hp} (hs : KeepT H H') {v : V} {r : Rl} (h : RAt H v r) : RAt H' v r := by
  induction h with
  | w e => exact .w (hs _ _ e)
  | no e _ ih => exact .no (hs _ _ e) ih
  | an e _ _ i1 i2 => exact .an (hs _ _ e) i1 i2
  | orr e _ _ i1 i2 => exact .orr (hs _ _ e) i1 i2
theorem Dk.At.same {D : Dk} {H H' : Hp} (S : Same H H') (h : D.At H) : D.At H' := by
  obtain ⟨⟨n, hd⟩, hp, ne, few, pools⟩ := h
  exact ⟨⟨n, S _ _ hd⟩, S _ _ hp, ne, few, fun q hq => let ⟨a, b, c, e⟩ := pools q hq; ⟨a, b, c, S _ _ e⟩⟩
theorem Kp.of {D : Dk} {H H' : Hp} (h : D.At H) (S : Same H H') : Kp D H H' := ⟨fun b o e _ => S b o e, h.same S⟩
theorem Kp.trans {D : Dk} {H H1 H2 : Hp} (a : Kp D H H1) (b : Kp D H1 H2) : Kp D H H2 := ⟨fun c o e n => b.old c o (a.old c o e n) n, b.dk⟩
theorem notOwn {D : Dk} {H : Hp} (DA : D.At H) {b : Addr} {o : HO} (h : H b = some o) (hi : ∀ xs, o = .lst xs → ∀ i : Int, V.int i ∉ xs) : ¬ D.own b := by
  obtain ⟨⟨n, hd⟩, hp, ne, few, pools⟩ := DA
  intro z
  rcases z with z | z
  · subst z
    rw [hd] at h
    have h := Option.some.inj h
    exact hi _ h.symm n (by simp)
  · obtain ⟨a, b', c, e⟩ := pools b z
    rw [e] at h
    have h := Option.some.inj h
    exact hi _ h.symm a (by simp)
theorem Kp.tups {D : Dk} {H H' : Hp} (DA : D.At H) (k : Kp D H H') : KeepT H H' := fun b xs e => k.old b _ e (notOwn DA e (fun _ z => nomatch z))
theorem noint_strs (ns : List Str) : ∀ i : Int, V.int i ∉ ns.map V.str := fun i h => by
  obtain ⟨x, _, e⟩ := List.mem_map.mp h
  cases e
theorem Kp.strs {D : Dk} {H H' : Hp} (DA : D.At H) (k : Kp D H H') {l : Addr} {ns : List Str} (h : H l = some (.lst (ns.map V.str))) : H' l = some (.lst (ns.map V.str)) :=
  k.old l _ h (notOwn DA h (fun xs e => by cases e; exact noint_strs ns))
theorem noint_refs {xs : List V} (h : ∀ x ∈ xs, ∃ a, x = V.ref a) : ∀ i : Int, V.int i ∉ xs := fun i hi => by
  obtain ⟨a, e⟩ := h _ hi
  cases e
theorem Kp.refs {D : Dk} {H H' : Hp} (DA : D.At H) (k : Kp D H H') {l : Addr} {xs : List V} (h : H l = some (.lst xs)) (hr : ∀ x ∈ xs, ∃ a, x = V.ref a) : H' l = some (.lst xs) :=
  k.old l _ h (notOwn DA h (fun ys e => by cases e; exact noint_refs hr))
noncomputable def GAt (H : Hp) (v : V) (g : Str × Rl) : Prop := ∃ b rv, v = .ref b ∧ H b = some (.tup [.str g.1, rv]) ∧ RAt H rv g.2
theorem GAt.mono {H H' : Hp} (hs : KeepT H H') {v : V} {g : Str × Rl} (h : GAt H v g) : GAt H' v g := let ⟨b, rv, e, h1, h2⟩ := h; ⟨b, rv, e, hs _ _ h1, h2.mono hs⟩
structure NAt (H : Hp) (a li lg : Addr) (ins : List Str) (vs : List V) (gs : List (Str × Rl)) : Prop where
  ha : H a = some (.tup [.ref li, .ref lg])
  hi : H li = some (.lst (ins.map V.str))
  hg : H lg = some (.lst vs)
  gates : Paired (GAt H) vs gs
theorem gates_refs {H : Hp} : ∀ {vs : List V} {gs : List (Str × Rl)}, Paired (GAt H) vs gs → ∀ x ∈ vs, ∃ a, x = V.ref a
  | _, _, .nil => fun x hx => nomatch hx
  | _, _, .cons h t => fun x hx => by
    rcases List.mem_cons.mp hx with e | hx
    · obtain ⟨b, _, e', _⟩ := h; exact ⟨b, e.trans e'⟩
    · exact gates_refs t x hx
theorem gates_mono {H H' : Hp} (hs : KeepT H H') : ∀ {vs : List V} {gs : List (Str × Rl)}, Paired (GAt H) vs gs → Paired (GAt H') vs gs
  | _, _, .nil => .nil
  | _, _, .cons h t => .cons (h.mono hs) (gates_mono hs t)
theorem NAt.same {H H' : Hp} {a li lg : Addr} {ins : List Str} {vs : List V} {gs : List (Str × Rl)} (S : Same H H') (h : NAt H a li lg ins vs gs) : NAt H' a li lg ins vs gs := ⟨S _ _ h.ha, S _ _ h.hi, S _ _ h.hg, gates_mono (Same.tups S) h.gates⟩
theorem NAt.kp {D : Dk} {H H' : Hp} {a li lg : Addr} {ins : List Str} {vs : List V} {gs : List (Str × Rl)} (DA : D.At H) (k : Kp D H H') (h : NAt H a li lg ins vs gs) : NAt H' a li lg ins vs gs :=
  ⟨k.tups DA _ _ h.ha, k.strs DA h.hi, k.refs DA h.hg (gates_refs h.gates), gates_mono (k.tups DA) h.gates⟩
noncomputable def wiresN (ins : List Str) (gs : List (Str × Rl)) : List Str := ins ++ gs.map (·.1)
structure Low (z : Str) : Prop where
  l1 : 1 ≤ z.length
  l8 : z.length ≤ 8
  low : ∀ c ∈ z.cps.toList, 97 ≤ c ∧ c ≤ 122
structure NetOk (ins : List Str) (gs : List (Str × Rl)) : Prop where
  i4 : ins.length ≤ 20
  g7 : gs.length ≤ 20
  rules : ∀ g ∈ gs, g.2.ok (wiresN ins gs) ∧ g.2.dep ≤ 10
  low : ∀ n ∈ wiresN ins gs, Low n
abbrev IsNet (ins : List Str) (gs : List (Str × Rl)) : Prop := ins.length ≤ 4 ∧ 1 ≤ gs.length ∧ gs.length ≤ 7 ∧ (wiresN ins gs).Nodup
structure StOk (n : Nat) (z : Str) : Prop where
  len : z.cps.size = n
  signs : ∀ c ∈ z.cps.toList, c = 48 ∨ c = 49
noncomputable def sg (b : Bool) : V := if b then .str "1" else .str "0"
set_option Elab.async false
set_option linter.all false
set_option maxRecDepth 100000
set_option maxHeartbeats 4000000

theorem i_yes {σ : St} {H : Hp} {R : Bool → Hp → Prop} (q : R true H) : tYes σ H R := q
theorem i_dget {td ty : TE} {σ : St} {H : Hp} {Q : VK} (q : td σ H fun x H1 => ty σ H1 fun y H2 => ∃ a v, x = .ref a ∧ DGet H2 a y (some v) ∧ Q v H2) : tDGet td ty σ H Q := q
theorem ifT {c : Bool} {A B : Prop} (hc : c = true) (h : A) : if c = true then A else B := by rw [if_pos hc]; exact h
theorem ifF {c : Bool} {A B : Prop} (hc : c = false) (h : B) : if c = true then A else B := by subst hc; exact iteF h
theorem same_upd {H H' : Hp} {D : Addr} {o : HO} (S : Same H H') (hD : H D = none) : Same H (upd H' D o) := fun b u e => by rw [upd_ne (ne_of_none e hD)]; exact S b u e
theorem comp_gate {K : PySem.W.Frag} {σ : St} {H : Hp} {Q : VK} {i : Nat} {c : Int} {a li lg : Addr} {gvs vals : List V} (hσ : σ[i]? = some (some (.ref a))) (ha : H a = some (.tup [.ref li, .ref lg])) (hg : H lg = some (.lst gvs)) (hs : gvs.length ≤ 1000)
    (hx : ∀ (j : Nat) x, gvs[j]? = some x → ∃ b ys v, x = .ref b ∧ H b = some (.tup ys) ∧ atI ys c = some v ∧ vals[j]? = some v) (hl : vals.length = gvs.length)
    (q : ∀ D H', H D = none → Same H H' → H' D = some (.lst vals) → Q (.ref D) H') :
    tComp (iList K (tOp (rIxT K) (tVar i) (tC (V.int 1)))) (gName 0) tYes (tOp (rIxT K) (tVar 0) (tC (V.int c))) (blockSt [Str.ofString "gate"] []) σ H Q := by
  refine i_comp (s_list (i_op (i_var hσ (i_c (i_ixT ha rfl ⟨lg, rfl, ⟨_, SqL.of hg⟩, fun D hD => ?_⟩)))))
  have big : 1000 < sizeLine := by decide
  refine comp_list (xs := gvs) (fun n H' ys => Same H H' ∧ H' D = some (.lst ys) ∧ ys = vals.take n) ⟨fresh_same hD, upd_same, by simp⟩ (fun n H' ys p => ⟨p.2.1, SqL.of (p.1 _ _ hg)⟩) (fun n x H' ys e p => ?_) (fun H' ys p => ?_)
  · obtain ⟨S, hd, rfl⟩ := p
    obtain ⟨b, zs, v, rfl, hb, hv, hv2⟩ := hx n x e
    have hn : n < gvs.length := (List.getElem?_eq_some_iff.mp e).1
    refine s_name ⟨trivial, ?_⟩
    refine i_yes (iteT ?_)
    refine i_op (i_var rfl (i_c (i_ixT (S _ _ hb) hv (NextC.mk hd hn (by rw [List.length_take]; omega) ⟨same_upd S hD, upd_same, ?_⟩))))
    rw [List.take_succ, hv2]; rfl
  · obtain ⟨S, hd, rfl⟩ := p
    exact q D H' hD S (by rw [hd, List.take_of_length_le (by omega)])
theorem paired_at {α β : Type} {F : α → β → Prop} : ∀ {xs : List α} {ys : List β}, Paired F xs ys → ∀ (j : Nat) x, xs[j]? = some x → ∃ y, ys[j]? = some y ∧ F x y
  | _, _, .nil => fun j x e => by simp at e
  | _, _, .cons (a := a) (b := b) h t => fun j x e => by
    cases j with
    | zero => simp at e; subst e; exact ⟨_, rfl, h⟩
    | succ j => simp at e; obtain ⟨y, e', f⟩ := paired_at t j x e; exact ⟨y, by simpa using e', f⟩
theorem paired_len {α β : Type} {F : α → β → Prop} : ∀ {xs : List α} {ys : List β}, Paired F xs ys → xs.length = ys.length
  | _, _, .nil => rfl
  | _, _, .cons h t => by simp [paired_len t]
theorem comp_names {K : PySem.W.Frag} {σ : St} {H : Hp} {Q : VK} {i : Nat} {a li lg : Addr} {ins : List Str} {gvs : List V} {gs : List (Str × Rl)} (hσ : σ[i]? = some (some (.ref a))) (NA : NAt H a li lg ins gvs gs) (ok : NetOk ins gs)
    (q : ∀ D H', H D = none → Same H H' → H' D = some (.lst ((gs.map (·.1)).map V.str)) → Q (.ref D) H') :
    tComp (iList K (tOp (rIxT K) (tVar i) (tC (V.int 1)))) (gName 0) tYes (tOp (rIxT K) (tVar 0) (tC (V.int 0))) (blockSt [Str.ofString "gate"] []) σ H Q := by
  have l := paired_len NA.gates
  have g7 := ok.g7
  refine comp_gate (vals := (gs.map (·.1)).map V.str) hσ NA.ha NA.hg (by omega) (fun j x e => ?_) (by simp [l]) q
  obtain ⟨g, e', b, rv, rfl, hb, hr⟩ := paired_at NA.gates j x e
  exact ⟨b, _, _, rfl, hb, rfl, by simp [e']⟩
theorem wires_map (ins : List Str) (gs : List (Str × Rl)) : ins.map V.str ++ (gs.map (·.1)).map V.str = (wiresN ins gs).map V.str := by unfold wiresN; rw [List.map_append]
section
variable {P : Program} {w : World} {K : PySem.W.Frag} {mg : Str → Option Value} {base : Heap} {TT : Addr}
theorem sc_gates_of : FnScope ["net"] ["net"] (defScope (top 12)) := ⟨rfl, rfl, rfl, by decide +kernel, rfl, by decide +kernel, by decide +kernel⟩
theorem sc_wires_of : FnScope ["net"] ["net"] (defScope (top 13)) := ⟨rfl, rfl, rfl, by decide +kernel, rfl, by decide +kernel, by decide +kernel⟩
end
end K2
set_option Elab.async false
set_option linter.all false
set_option maxRecDepth 100000
set_option maxHeartbeats 4000000
namespace K2
open PySem L2
local macro_rules | `(tactic| walk_at "vc") => `(tactic| first
  | (with_reducible refine s_seq ?_) | (with_reducible refine s_asg ?_) | (with_reducible refine s_name ?_) | (with_reducible refine s_drop ?_) | (with_reducible refine s_ret ?_) | (with_reducible refine s_if ?_) | (with_reducible refine s_sub ?_) | (with_reducible refine s_next ?_)
  | ((with_reducible refine' i_var ?hv ?_); (case hv => exact rfl)) | (with_reducible refine i_c ?_) | (with_reducible refine i_op ?_) | (with_reducible refine i_rI0 ?_) | (with_reducible refine i_test ?_) | (with_reducible refine i_tB ?_) | (with_reducible refine i_and ?_) | (with_reducible refine i_or ?_)
  | (with_reducible refine i_not ?_) | (with_reducible refine i_andV ?_) | (with_reducible refine i_orV ?_) | (with_reducible refine i_notV ?_) | (with_reducible refine i_ifE ?_) | (with_reducible refine i_nil ?_) | (with_reducible refine i_cons ?_) | (with_reducible refine i_call ?_) | (with_reducible refine i_cb ?_)
  | (with_reducible refine i_tup ?_) | (with_reducible refine i_lst ?_) | (with_reducible refine i_bm ?_) | (with_reducible refine i_sl ?_) | (with_reducible refine i_nopart ?_) | (with_reducible refine i_part ?_) | ((with_reducible show ∃ i, V.int _ = V.int i ∧ _); (refine ⟨_, rfl, ?_⟩)) | ((with_reducible show ∃ k, V.bl _ = V.bl k ∧ _); (refine ⟨_, rfl, ?_⟩)) | ((with_reducible show (∃ i, [V.bl _] = [V.int i] ∧ _) ∨ _); (refine Or.inr ⟨_, rfl, ?_⟩))
  | (with_reducible refine s_for ?_) | (with_reducible refine s_rng1 ?_) | (with_reducible refine s_list ?_) | (with_reducible refine s_str ?_) | (with_reducible refine s_strI ?_) | (with_reducible refine iteF ?_) | (with_reducible refine iteT ?_)
  | ((with_reducible refine' i_ixL ?ha ?hb ?_); (case ha => exact SqL.of (by assumption)); (case hb => exact rfl)) | ((with_reducible refine' i_ixT ?ha ?hb ?_); (case ha => assumption); (case hb => exact rfl))
  | ((with_reducible show ∃ p _, [V.ref _] = [V.ref p] ∧ (SqL _ _ _ _ ∨ SqT _ _ _ _) ∧ _); (refine' ⟨_, _, rfl, Or.inl (SqL.of ?ha), ?_⟩); (case ha => assumption)) | ((with_reducible refine' s_setL ?ha ?hb ?_); (case ha => assumption); (case hb => exact rfl))
  | ((with_reducible refine' i_eq ?ha ?_); (case ha => exact rfl)) | ((with_reducible refine' i_ne ?ha ?_); (case ha => exact rfl))
  | (with_reducible refine i_dget ?_) | (with_reducible refine i_yes ?_) | ((with_reducible show ∃ z, V.str _ = V.str z ∧ _); (refine ⟨_, rfl, ?_⟩))
  | (with_reducible refine i_un ?_) | (with_reducible refine i_rU ?_)
  | ((with_reducible refine' i_rI ?hv ?_); (case hv => first | decide | (dsimp only; omega) | exact .inl ⟨by omega, by omega⟩ | exact .inr ⟨by omega, by omega⟩ | exact ⟨by decide, by decide⟩ | exact ⟨by decide, by decide, by decide⟩ | exact ⟨by omega, by omega⟩))
  | ((with_reducible show ∃ i, [V.int _] = [V.int i] ∧ _); (refine ⟨_, rfl, ?_⟩))
  | ((with_reducible show tyV _ "list" _ _ ∧ _); (refine' ⟨i_tyL ?ha, ?_⟩); (case ha => assumption)))

theorem i_chain {r r' : R2} {ta tb tc : TE} {σ : St} {H : Hp} {Q : VK} (q : ta σ H fun x H1 => tb σ H1 fun y H2 => r x y H2 fun z H3 => ∃ k, z = .bl k ∧ (if k = true then tc σ H3 fun w' H4 => r' y w' H4 Q else Q (.bl false) H3)) : tChain r r' ta tb tc σ H Q := q
section
variable {P : Program} {w : World} {K : PySem.W.Frag} {mg : Str → Option Value} {base : Heap} {TT : Addr}
theorem sc_is_pair : FnScope ["thing"] ["thing"] (defScope (top 9)) := ⟨rfl, rfl, rfl, by decide +kernel, rfl, by decide +kernel, by decide +kernel⟩
theorem sc_is_name : FnScope ["thing"] ["thing"] (defScope (top 7)) := ⟨rfl, rfl, rfl, by decide +kernel, rfl, by decide +kernel, by decide +kernel⟩
end
set_option Elab.async false
set_option linter.all false
set_option maxRecDepth 100000
set_option maxHeartbeats 4000000

theorem i_lens {K : PySem.W.Frag} {ta : TA} {σ : St} {H : Hp} {Q : VK} (q : ta σ H fun vs H1 => ∃ (l : Addr) (ts : List Str), vs = [.ref l] ∧ SqL K H1 l (ts.map V.str) ∧ ts.length < 1000 ∧ Q (.int (uniq ts)) H1) : tLenSet K ta σ H Q := q
section
variable {P : Program} {w : World} {K : PySem.W.Frag} {mg : Str → Option Value} {base : Heap} {TT : Addr}
theorem sc_are_unlike_names : FnScope ["things"] ["things"] (defScope (top 10)) := ⟨rfl, rfl, rfl, by decide +kernel, rfl, by decide +kernel, by decide +kernel⟩
end
set_option Elab.async false
set_option linter.all false
set_option maxRecDepth 100000
set_option maxHeartbeats 4000000

theorem inV_str {nm : Str} : ∀ {ns : List Str}, inV (.str nm) (ns.map V.str) = true ↔ nm ∈ ns
  | [] => by simp [inV]
  | n :: ns => by
    have ih := inV_str (nm := nm) (ns := ns)
    unfold inV at ih ⊢
    rw [List.map_cons, List.any_cons, Bool.or_eq_true, ih, List.mem_cons]
    have : eqV (.str n) (.str nm) = (n == nm) := rfl
    rw [this, beq_iff_eq]
    exact ⟨fun h => h.imp Eq.symm id, fun h => h.imp Eq.symm id⟩
theorem flat_strs (ns : List Str) : (ns.map V.str).all flatV = true := by
  rw [List.all_eq_true]
  intro x hx
  obtain ⟨n, _, rfl⟩ := List.mem_map.mp hx
  rfl
theorem six_one (n d : Nat) : HT.sIx (n + 1) d (some 1) = 1 := by
  show HT.sIx (n + 1) d (some ((1 : Nat) : Int)) = 1
  rw [HT.sIx_nat]
  omega
theorem cut_one (x : V) (as : List V) : cutV (x :: as) (some 1) none = as := by
  unfold cutV
  rw [List.length_cons, six_one, HT.sIx_none]
  simp
section
variable {P : Program} {w : World} {K : PySem.W.Frag} {mg : Str → Option Value} {base : Heap} {TT : Addr}
theorem fnok_false {k : Nat} {f : Addr} {fd : FuncData} {ps : List Str} {sp : Sp} (h : ∀ vs H Q E, sp vs H Q E → False) : FnOk P w K mg base CX0 k f fd ps sp :=
  ⟨fun vs H Q E q => (h vs H Q E q).elim, fun _ _ _ _ _ _ vs Q E _ _ _ _ q => (h _ _ _ _ q).elim⟩
theorem dep_pos (r : Rl) : 1 ≤ r.dep := by cases r <;> simp [Rl.dep]
theorem sc_is_rule : FnScope ["thing", "wires", "depth", "kind"] ["thing", "wires", "depth"] (defScope (top 8)) := ⟨rfl, rfl, rfl, by decide +kernel, rfl, by decide +kernel, by decide +kernel⟩
end
set_option Elab.async false
set_option linter.all false
set_option maxRecDepth 100000
set_option maxHeartbeats 4000000

section
variable {P : Program} {w : World} {K : PySem.W.Frag} {mg : Str → Option Value} {base : Heap} {TT : Addr}
theorem sc_is_net : FnScope ["thing", "inputs", "gates", "wires"] ["thing"] (defScope (top 11)) := ⟨rfl, rfl, rfl, by decide +kernel, rfl, by decide +kernel, by decide +kernel⟩
end
set_option Elab.async false
set_option linter.all false
set_option maxRecDepth 100000
set_option maxHeartbeats 4000000

noncomputable def spCopy : Sp := fun vs H Q _ => ∃ a li lg ins gvs gs, vs = [.ref a] ∧ NAt H a li lg ins gvs gs ∧ ∀ a' li' lg' H', Same H H' → H a' = none → H li' = none → H lg' = none → NAt H' a' li' lg' ins gvs gs → Q (.ref a') H'
noncomputable def spHeld : Sp := fun vs H Q _ => ∃ v1 v2 v3 r1 r2 r3, vs = [v1, v2, v3] ∧ RAt H v1 r1 ∧ RAt H v2 r2 ∧ RAt H v3 r3 ∧ ∀ v H', Same H H' → RAt H' v (.orr (.an r1 r2) (.an r3 (.orr r1 r2))) → Q v H'
section
variable {P : Program} {w : World} {K : PySem.W.Frag} {mg : Str → Option Value} {base : Heap} {TT : Addr}
theorem sc_law_copy : FnScope ["net"] ["net"] (defScope (top 22)) := ⟨rfl, rfl, rfl, by decide +kernel, rfl, by decide +kernel, by decide +kernel⟩
theorem ok_copy {f : Addr} {fd : FuncData} (Fu : Fun K "_law_copy" "_law_copy" (top 22) f fd) (T : Txt K mg TT) : FnOk P w K mg base CX0 1 f fd ["net"] spCopy := by
  have S := sc_law_copy
  refine Fu.ok S (fun vs H Q E h => ?_) (fun cdv A outer s H vs Q E hr h => ?_)
  · obtain ⟨a, li, lg, ins, gvs, gs, rfl, _⟩ := h
    rfl
  · obtain ⟨a, li, lg, ins, gvs, gs, rfl, NA, k⟩ := h
    obtain ⟨ha, hi, hg, gts⟩ := id NA
    refine ⟨_, (pss_one (ps_ret (pe_tup (pa_cons (pe_callTy call_list_of (by rfl) T.n_list PyProof.Rows.boot_list (pa_cons (pe_ix ix_tup (pv 0) pe_int (fun _ _ => rfl)) pa_nil)) (pa_cons (pe_callTy call_list_of (by rfl) T.n_list PyProof.Rows.boot_list (pa_cons (pe_ix ix_tup (pv 0) pe_int (fun _ _ => rfl)) pa_nil)) pa_nil))))), ?_⟩
    try dsimp only [cxOf, Cx.nox, Cx.wish]
    rw [show L2.start ["net"] [V.ref a] = [some (.ref a)] from rfl]
    repeat walk_at "vc"
    intro l hl
    have S1 := fresh_same (o := .lst (ins.map V.str)) hl
    have ha1 := S1 _ _ ha
    have hg1 := S1 _ _ hg
    have hl1 : upd H l (HO.lst (ins.map V.str)) l = some (.lst (ins.map V.str)) := upd_same
    generalize upd H l (HO.lst (ins.map V.str)) = H1 at *
    repeat walk_at "vc"
    intro m hm
    have S2 := fresh_same (o := .lst gvs) hm
    have hl2 := S2 _ _ hl1
    have hm2 : upd H1 m (HO.lst gvs) m = some (.lst gvs) := upd_same
    generalize upd H1 m (HO.lst gvs) = H2 at *
    repeat walk_at "vc"
    refine ⟨by simp [sizeLine], fun p hp => ?_⟩
    have S3 := fresh_same (o := .tup [.ref l, .ref m]) hp
    have S13 := S1.trans (S2.trans S3)
    exact k p l m _ S13 (Same.free (S1.trans S2) hp) hl (Same.free S1 hm) ⟨upd_same, S3 _ _ hl2, S3 _ _ hm2, gates_mono (Same.tups S13) gts⟩
theorem sc_law_held : FnScope ["one", "other", "own"] ["one", "other", "own"] (defScope (top 19)) := ⟨rfl, rfl, rfl, by decide +kernel, rfl, by decide +kernel, by decide +kernel⟩
theorem ok_held {f : Addr} {fd : FuncData} (Fu : Fun K "_law_held" "_law_held" (top 19) f fd) (T : Txt K mg TT) : FnOk P w K mg base CX0 1 f fd ["one", "other", "own"] spHeld := by
  have S := sc_law_held
  refine Fu.ok S (fun vs H Q E h => ?_) (fun cdv A outer s H vs Q E hr h => ?_)
  · obtain ⟨v1, v2, v3, r1, r2, r3, rfl, _⟩ := h
    rfl
  · obtain ⟨v1, v2, v3, r1, r2, r3, rfl, h1, h2, h3, k⟩ := h
    refine ⟨_, (pss_one (ps_ret (pe_tup (pa_cons pe_str (pa_cons (pe_tup (pa_cons pe_str (pa_cons (pv 0) (pa_cons (pv 1) pa_nil)))) (pa_cons (pe_tup (pa_cons pe_str (pa_cons (pv 2) (pa_cons (pe_tup (pa_cons pe_str (pa_cons (pv 0) (pa_cons (pv 1) pa_nil)))) pa_nil)))) pa_nil)))))), ?_⟩
    try dsimp only [cxOf, Cx.nox, Cx.wish]
    rw [show L2.start ["one", "other", "own"] [v1, v2, v3] = [some v1, some v2, some v3] from rfl]
    repeat walk_at "vc"
    refine ⟨by simp [sizeLine], fun p1 hp1 => ?_⟩
    have S1 := fresh_same (o := .tup [.str "and", v1, v2]) hp1
    have q1 : upd H p1 (.tup [.str "and", v1, v2]) p1 = some (.tup [.str "and", v1, v2]) := upd_same
    generalize upd H p1 (.tup [.str "and", v1, v2]) = H1 at *
    repeat walk_at "vc"
    refine ⟨by simp [sizeLine], fun p2 hp2 => ?_⟩
    have S2 := fresh_same (o := .tup [.str "or", v1, v2]) hp2
    have q2 : upd H1 p2 (.tup [.str "or", v1, v2]) p2 = some (.tup [.str "or", v1, v2]) := upd_same
    generalize upd H1 p2 (.tup [.str "or", v1, v2]) = H2 at *
    repeat walk_at "vc"
    refine ⟨by simp [sizeLine], fun p3 hp3 => ?_⟩
    have S3 := fresh_same (o := .tup [.str "and", v3, .ref p2]) hp3
    have q3 : upd H2 p3 (.tup [.str "and", v3, .ref p2]) p3 = some (.tup [.str "and", v3, .ref p2]) := upd_same
    generalize upd H2 p3 (.tup [.str "and", v3, .ref p2]) = H3 at *
    repeat walk_at "vc"
    refine ⟨by simp [sizeLine], fun p4 hp4 => ?_⟩
    have S4 := fresh_same (o := .tup [.str "or", .ref p1, .ref p3]) hp4
    have S14 := S1.trans (S2.trans (S3.trans S4))
    have m1 := h1.mono (Same.tups S14)
    have m2 := h2.mono (Same.tups S14)
    have m3 := h3.mono (Same.tups S14)
    exact k _ _ S14 (.orr upd_same (.an ((S2.trans (S3.trans S4)) _ _ q1) m1 m2) (.an (S4 _ _ q3) m3 (.orr ((S3.trans S4) _ _ q2) m1 m2)))
end
end K2
set_option Elab.async false
set_option linter.all false
set_option maxRecDepth 100000
set_option maxHeartbeats 4000000
namespace K2
open PySem L2
local macro_rules | `(tactic| walk_at "vc") => `(tactic| first
  | (with_reducible refine s_seq ?_) | (with_reducible refine s_asg ?_) | (with_reducible refine s_name ?_) | (with_reducible refine s_drop ?_) | (with_reducible refine s_ret ?_) | (with_reducible refine s_if ?_) | (with_reducible refine s_sub ?_) | (with_reducible refine s_next ?_)
  | ((with_reducible refine' i_var ?hv ?_); (case hv => exact rfl)) | (with_reducible refine i_c ?_) | (with_reducible refine i_op ?_) | (with_reducible refine i_rI0 ?_) | (with_reducible refine i_test ?_) | (with_reducible refine i_tB ?_) | (with_reducible refine i_and ?_) | (with_reducible refine i_or ?_)
  | (with_reducible refine i_not ?_) | (with_reducible refine i_andV ?_) | (with_reducible refine i_orV ?_) | (with_reducible refine i_notV ?_) | (with_reducible refine i_ifE ?_) | (with_reducible refine i_nil ?_) | (with_reducible refine i_cons ?_) | (with_reducible refine i_call ?_) | (with_reducible refine i_cb ?_)
  | (with_reducible refine i_tup ?_) | (with_reducible refine i_lst ?_) | (with_reducible refine i_bm ?_) | (with_reducible refine i_sl ?_) | (with_reducible refine i_nopart ?_) | (with_reducible refine i_part ?_) | ((with_reducible show ∃ i, V.int _ = V.int i ∧ _); (refine ⟨_, rfl, ?_⟩)) | ((with_reducible show ∃ k, V.bl _ = V.bl k ∧ _); (refine ⟨_, rfl, ?_⟩)) | ((with_reducible show (∃ i, [V.bl _] = [V.int i] ∧ _) ∨ _); (refine Or.inr ⟨_, rfl, ?_⟩))
  | (with_reducible refine s_for ?_) | (with_reducible refine s_rng1 ?_) | (with_reducible refine s_list ?_) | (with_reducible refine s_str ?_) | (with_reducible refine s_strI ?_) | (with_reducible refine i_comp ?_) | (with_reducible refine iteF ?_) | (with_reducible refine iteT ?_)
  | ((with_reducible refine' i_ixL ?ha ?hb ?_); (case ha => exact SqL.of (by assumption)); (case hb => exact rfl)) | ((with_reducible refine' i_ixT ?ha ?hb ?_); (case ha => assumption); (case hb => exact rfl))
  | ((with_reducible show ∃ p _, [V.ref _] = [V.ref p] ∧ (SqL _ _ _ _ ∨ SqT _ _ _ _) ∧ _); (refine' ⟨_, _, rfl, Or.inl (SqL.of ?ha), ?_⟩); (case ha => assumption)) | ((with_reducible refine' s_setL ?ha ?hb ?_); (case ha => assumption); (case hb => exact rfl))
  | ((with_reducible refine' i_eq ?ha ?_); (case ha => exact rfl)) | ((with_reducible refine' i_ne ?ha ?_); (case ha => exact rfl)))
section
variable {P : Program} {w : World} {K : PySem.W.Frag} {mg : Str → Option Value} {base : Heap} {TT : Addr}
theorem sc_law_draw : FnScope ["deck", "many", "pool", "found", "number"] ["deck", "many"] (defScope (top 16)) := ⟨rfl, rfl, rfl, by decide +kernel, rfl, by decide +kernel, by decide +kernel⟩
theorem ok_draw {f : Addr} {fd : FuncData} (Fu : Fun K "_law_draw" "_law_draw" (top 16) f fd) (T : Txt K mg TT) : FnOk P w K mg base CX0 1 f fd ["deck", "many"] spDraw := by
  have S := sc_law_draw
  refine Fu.ok S (fun vs H Q E h => ?_) (fun cdv A outer s H vs Q E hr h => ?_)
  · obtain ⟨D, m, rfl, _⟩ := h
    rfl
  · obtain ⟨D, m, rfl, DA, h1, h2, k⟩ := h
    refine ⟨_, (pss_cons (ps_set (i := 2) S.nd rfl (by first | exact Or.inl rfl | exact Or.inr rfl) (pe_ix ix_list (pe_ix ix_list (pv 0) pe_int (fun _ _ => rfl)) (pe_op op_mod (pe_ix ix_list (pv 0) pe_int (fun _ _ => rfl)) (pe_callB call_len_seq (by rfl) T.n_len PySem.boot_len (pa_cons (pe_ix ix_list (pv 0) pe_int (fun _ _ => rfl)) pa_nil))) (fun _ _ => rfl)))
      (pss_cons (ps_asg (pe_op op_add (pe_ix ix_list (pv 0) pe_int (fun _ _ => rfl)) pe_int) (pg_sub (pv 0) pe_int set_list))
      (pss_cons (ps_if (PW.pt (pw_and (pt_cmpR op_eq (pe_ix ix_list (pv 2) pe_int (fun _ _ => rfl)) pe_int (nomark _)) (pw_and1 (pt_cmpR op_gt (pe_ix ix_list (pv 2) pe_int (fun _ _ => rfl)) pe_int (nomark _))))) (pss_cons (ps_set (i := 3) S.nd rfl (by first | exact Or.inl rfl | exact Or.inr rfl) (pe_op op_mod (pe_ix ix_list (pv 2) pe_int (fun _ _ => rfl)) (pv 1)))
      (pss_cons (ps_asg (pe_op op_fdiv (pe_ix ix_list (pv 2) pe_int (fun _ _ => rfl)) (pv 1)) (pg_sub (pv 2) pe_int set_list))
      (pss_one (ps_ret (pv 3))))) pss_nil)
      (pss_cons (ps_asg (pe_op op_add (pe_ix ix_list (pv 2) pe_int (fun _ _ => rfl)) pe_int) (pg_sub (pv 2) pe_int set_list))
      (pss_cons (ps_set (i := 4) S.nd rfl (by first | exact Or.inl rfl | exact Or.inr rfl) (pe_op op_mod (pe_op op_add (pe_op op_mod (pe_ix ix_list (pv 2) pe_int (fun _ _ => rfl)) pe_int) (pe_op op_mul pe_int (pe_ix ix_list (pv 2) pe_int (fun _ _ => rfl)))) pe_int))
      (pss_cons (ps_set (i := 4) S.nd rfl (by first | exact Or.inl rfl | exact Or.inr rfl) (pe_op op_mod (pe_op op_mul (pv 4) (pv 4)) pe_int))
      (pss_cons (ps_set (i := 4) S.nd rfl (by first | exact Or.inl rfl | exact Or.inr rfl) (pe_op op_mod (pe_op op_mul (pv 4) (pe_op op_add (pv 4) pe_int)) pe_int))
      (pss_one (ps_ret (pe_op op_mod (pe_op op_fdiv (pv 4) pe_int) (pv 1))))))))))), ?_⟩
    dsimp only [cxOf, Cx.nox, Cx.wish]
    rw [show L2.start ["deck", "many", "pool", "found", "number"] [.ref D.d, .int m] = [some (.ref D.d), some (.int m), none, none, none] from rfl]
    obtain ⟨⟨n, hd⟩, hp, ne, few, pools⟩ := id DA
    have lq : (0 : Int) < ((D.qs.map V.ref).length : Int) := by
      rw [List.length_map]
      cases e : D.qs with
      | nil => exact absurd e ne
      | cons a r => simp
    repeat walk_at "vc"
    refine i_rI lq ?_
    obtain ⟨q, hq, eq⟩ := at_mod ne n
    refine i_ixL (SqL.of hp) eq ?_
    obtain ⟨a, b, c, hq3⟩ := pools q hq
    have ndq : q ≠ D.d := ne_of hq3 hd int_ne_ref
    repeat walk_at "vc"
    generalize hH1 : upd H D.d (HO.lst ([V.ref D.p, V.int n].set (Int.toNat 1) (V.int (n + 1)))) = H1
    have hd1 : H1 D.d = some (.lst [.ref D.p, .int (n + 1)]) := by rw [← hH1]; exact upd_same
    have hq1 : H1 q = some (.lst [.int a, .int b, .int c]) := by rw [← hH1, upd_ne ndq]; exact hq3
    have o1 : ∀ b, b ≠ D.d → H1 b = H b := fun b hb => by rw [← hH1, upd_ne hb]
    have kp : ∀ (a' b' c' : Int), Kp D H (upd H1 q (.lst [.int a', .int b', .int c'])) := fun a' b' c' =>
      kp_mk DA hq (fun b h1 h2 => by rw [upd_ne h2, o1 b h1]) (by rw [upd_ne ndq.symm]; exact hd1) upd_same
    clear hH1
    have rest : tSeq (tAsg (tOp (rI0 fun i j => V.int (i + j)) (tOp (rIxL K) (tVar 2) (tC (V.int 2))) (tC (V.int 1))) (gSub (tVar 2) (tC (V.int 2)) rSetL))
        (tSeq (tAsg (tOp (rI (fun x j => 0 < j) fun i j => V.int (i % j)) (tOp (rI0 fun i j => V.int (i + j)) (tOp (rI (fun x j => 0 < j) fun i j => V.int (i % j)) (tOp (rIxL K) (tVar 2) (tC (V.int 0))) (tC (V.int 99999999977))) (tOp (rI CMul fun i j => V.int (i * j)) (tC (V.int 700001)) (tOp (rIxL K) (tVar 2) (tC (V.int 2))))) (tC (V.int 99999999947))) (gName 4))
        (tSeq (tAsg (tOp (rI (fun x j => 0 < j) fun i j => V.int (i % j)) (tOp (rI CMul fun i j => V.int (i * j)) (tVar 4) (tVar 4)) (tC (V.int 99999999821))) (gName 4))
        (tSeq (tAsg (tOp (rI (fun x j => 0 < j) fun i j => V.int (i % j)) (tOp (rI CMul fun i j => V.int (i * j)) (tVar 4) (tOp (rI0 fun i j => V.int (i + j)) (tVar 4) (tC (V.int 19)))) (tC (V.int 9999999967))) (gName 4))
        (tRet (tOp (rI (fun x j => 0 < j) fun i j => V.int (i % j)) (tOp (rI CDiv fun i j => V.int (i / j)) (tVar 4) (tC (V.int 13))) (tVar 1))))))
        { nx := fun _ H' => Q .non H', rt := Q } [some (.ref D.d), some (.int m), some (.ref q), none, none] H1 := by
      repeat walk_at "vc"
      have hq2 : upd H1 q (HO.lst ([V.int a, V.int b, V.int c].set (Int.toNat 2) (V.int (c + 1)))) q = some (.lst [.int a, .int b, .int (c + 1)]) := upd_same
      repeat walk_at "vc"
      refine i_rI (by decide) ?_
      repeat walk_at "vc"
      refine i_rI (.inl ⟨by decide, by decide⟩) ?_
      repeat walk_at "vc"
      refine i_rI (by decide) ?_
      repeat walk_at "vc"
      generalize hn1 : (a % 99999999977 + 700001 * (c + 1)) % 99999999947 = n1
      have b1 : 0 ≤ n1 := by rw [← hn1]; exact Int.emod_nonneg _ (by decide)
      have b2 : n1 < 99999999947 := by rw [← hn1]; exact Int.emod_lt_of_pos _ (by decide)
      refine i_rI (small_mul b1 (by omega) _) ?_
      repeat walk_at "vc"
      refine i_rI (by decide) ?_
      repeat walk_at "vc"
      generalize hn2 : n1 * n1 % 99999999821 = n2
      have b3 : 0 ≤ n2 := by rw [← hn2]; exact Int.emod_nonneg _ (by decide)
      have b4 : n2 < 99999999821 := by rw [← hn2]; exact Int.emod_lt_of_pos _ (by decide)
      refine i_rI (small_mul b3 (by omega) _) ?_
      repeat walk_at "vc"
      refine i_rI (by decide) ?_
      repeat walk_at "vc"
      refine i_rI ⟨by decide, by decide⟩ ?_
      repeat walk_at "vc"
      refine i_rI (show (0 : Int) < m by omega) ?_
      exact k _ _ (Int.emod_nonneg _ (by omega)) (Int.emod_lt_of_pos _ (by omega)) (kp _ _ _)
    repeat walk_at "vc"
    refine ite2 (fun _ => ?_) (fun _ => ?_)
    · repeat walk_at "vc"
      refine ite2 (fun _ => ?_) (fun _ => ?_)
      · repeat walk_at "vc"
        refine i_rI (show (0 : Int) < m by omega) ?_
        repeat walk_at "vc"
        refine i_rI ⟨by omega, by omega⟩ ?_
        repeat walk_at "vc"
        exact k _ _ (Int.emod_nonneg _ (by omega)) (Int.emod_lt_of_pos _ (by omega)) (kp _ _ _)
      · first | exact rest | exact iteF rest
    · first | exact rest | exact iteF rest
end
end K2
set_option Elab.async false
set_option linter.all false
set_option maxRecDepth 100000
set_option maxHeartbeats 4000000
namespace K2
open PySem L2
local macro_rules | `(tactic| walk_at "vc") => `(tactic| first
  | (with_reducible refine s_seq ?_) | (with_reducible refine s_asg ?_) | (with_reducible refine s_name ?_) | (with_reducible refine s_drop ?_) | (with_reducible refine s_ret ?_) | (with_reducible refine s_if ?_) | (with_reducible refine s_sub ?_) | (with_reducible refine s_next ?_)
  | ((with_reducible refine' i_var ?hv ?_); (case hv => exact rfl)) | (with_reducible refine i_c ?_) | (with_reducible refine i_op ?_) | (with_reducible refine i_rI0 ?_) | (with_reducible refine i_test ?_) | (with_reducible refine i_tB ?_) | (with_reducible refine i_and ?_) | (with_reducible refine i_or ?_)
  | (with_reducible refine i_not ?_) | (with_reducible refine i_andV ?_) | (with_reducible refine i_orV ?_) | (with_reducible refine i_notV ?_) | (with_reducible refine i_ifE ?_) | (with_reducible refine i_nil ?_) | (with_reducible refine i_cons ?_) | (with_reducible refine i_call ?_) | (with_reducible refine i_cb ?_)
  | (with_reducible refine i_tup ?_) | (with_reducible refine i_lst ?_) | (with_reducible refine i_bm ?_) | (with_reducible refine i_sl ?_) | (with_reducible refine i_nopart ?_) | (with_reducible refine i_part ?_) | ((with_reducible show ∃ i, V.int _ = V.int i ∧ _); (refine ⟨_, rfl, ?_⟩)) | ((with_reducible show ∃ k, V.bl _ = V.bl k ∧ _); (refine ⟨_, rfl, ?_⟩)) | ((with_reducible show (∃ i, [V.bl _] = [V.int i] ∧ _) ∨ _); (refine Or.inr ⟨_, rfl, ?_⟩))
  | (with_reducible refine s_for ?_) | (with_reducible refine s_rng1 ?_) | (with_reducible refine s_list ?_) | (with_reducible refine s_str ?_) | (with_reducible refine s_strI ?_) | (with_reducible refine iteF ?_) | (with_reducible refine iteT ?_)
  | ((with_reducible refine' i_ixL ?ha ?hb ?_); (case ha => exact SqL.of (by assumption)); (case hb => exact rfl)) | ((with_reducible refine' i_ixT ?ha ?hb ?_); (case ha => assumption); (case hb => exact rfl))
  | ((with_reducible show ∃ p _, [V.ref _] = [V.ref p] ∧ (SqL _ _ _ _ ∨ SqT _ _ _ _) ∧ _); (refine' ⟨_, _, rfl, Or.inl (SqL.of ?ha), ?_⟩); (case ha => assumption)) | ((with_reducible refine' s_setL ?ha ?hb ?_); (case ha => assumption); (case hb => exact rfl))
  | ((with_reducible refine' i_eq ?ha ?_); (case ha => exact rfl)) | ((with_reducible refine' i_ne ?ha ?_); (case ha => exact rfl))
  | (with_reducible refine i_dget ?_) | (with_reducible refine i_yes ?_) | ((with_reducible show ∃ z, V.str _ = V.str z ∧ _); (refine ⟨_, rfl, ?_⟩)))

theorem Kp.fresh {D : Dk} {H H' : Hp} {L : Addr} {o : HO} (DA : D.At H) (hL : H L = none) (k : Kp D H H') : Kp D H (upd H' L o) := by
  obtain ⟨⟨n0, hd0⟩, hp0, _, _, pools0⟩ := DA
  obtain ⟨⟨n, hd⟩, hp, ne, few, pools⟩ := k.dk
  refine ⟨fun b u e nb => by rw [upd_ne (ne_of_none e hL)]; exact k.old b u e nb, ⟨⟨n, by rw [upd_ne (ne_of_none hd0 hL)]; exact hd⟩, by rw [upd_ne (ne_of_none hp0 hL)]; exact hp, ne, few, fun q hq => ?_⟩⟩
  obtain ⟨a, b, c, e⟩ := pools q hq
  obtain ⟨a0, b0, c0, e0⟩ := pools0 q hq
  exact ⟨a, b, c, by rw [upd_ne (ne_of_none e0 hL)]; exact e⟩
theorem Kp.new {D : Dk} {H H' : Hp} {p : Addr} {o : HO} (k : Kp D H H') (hp : H' p = none) : Kp D H (upd H' p o) := k.trans (Kp.of k.dk (fresh_same hp))
theorem comp_letters {D : Dk} {t : Str} {n : Nat} {H1 : Hp} {L : Addr} {te : TE} {σ0 : St} {QD : Hp → Prop} (DA : D.At H1) (hL : H1 L = none) (hn : n ≤ 1000) (hwk : ∀ x, wk σ0 (σ0.set 0 (some x)))
    (hstep : ∀ (i : Int) H' (Q : VK), D.At H' → (∀ c H'', c ∈ t.cps.toList → Kp D H' H'' → Q (.str ⟨#[c]⟩) H'') → te (σ0.set 0 (some (.int i))) H' Q)
    (hd : ∀ H' (zs : List Str), zs.length = n → (∀ z ∈ zs, ∃ c ∈ t.cps.toList, z = ⟨#[c]⟩) → Kp D H1 H' → H' L = some (.lst (zs.map V.str)) → QD H') :
    ∃ W : Nat → Nat → Hp → List V → Prop, (∃ m, W 0 m (upd H1 L (.lst [])) []) ∧ ∀ i m H ys, W i m H ys → H L = some (.lst ys) ∧ (((Itr 0 n).stop i H ∧ QD H) ∨ ((Itr 0 n).go i H ∧ ∀ x H', (Itr 0 n).yld i H x H' → gName 0 x σ0 H' fun σ2 H2 => wk σ0 σ2 ∧ tYes σ2 H2 fun b H3 =>
      if b = true then te σ2 H3 fun v H4 => H4 L = some (.lst ys) ∧ ys.length < sizeLine ∧ ∃ m', m' < m ∧ W (i + 1) m' (upd H4 L (.lst (ys ++ [v]))) (ys ++ [v]) else ∃ m', m' < m ∧ W (i + 1) m' H3 ys)) := by
  have big : 1000 < sizeLine := by decide
  refine comp_range (fun n H' ys => Kp D H1 H' ∧ H' L = some (.lst ys) ∧ ∃ zs : List Str, ys = zs.map V.str ∧ zs.length = n ∧ ∀ z ∈ zs, ∃ c ∈ t.cps.toList, z = ⟨#[c]⟩) ⟨Kp.fresh DA hL (Kp.of DA (Same.refl _)), upd_same, [], rfl, rfl, fun z h => nomatch h⟩ (fun i H ys p => p.2.1) (fun i H ys hi p => ?_) (fun H ys p => ?_)
  · obtain ⟨kp, hl, zs, rfl, hz, hc⟩ := p
    refine s_name ⟨hwk _, i_yes (iteT ?_)⟩
    refine hstep _ H _ kp.dk fun c H'' hc' k2 => ?_
    refine NextC.mk (k2.strs kp.dk hl) hi (by rw [List.length_map]; omega) ⟨Kp.fresh DA hL (kp.trans k2), upd_same, zs ++ [⟨#[c]⟩], by simp, by simp [hz], fun z hz' => ?_⟩
    rcases List.mem_append.mp hz' with h | h
    · exact hc z h
    · rw [List.mem_singleton] at h
      exact ⟨c, hc', h⟩
  · obtain ⟨kp, hl, zs, rfl, hz, hc⟩ := p
    exact hd H zs hz hc kp hl
theorem letters_flat {T : List Nat} : ∀ (zs : List Str), (∀ z ∈ zs, ∃ c ∈ T, z = ⟨#[c]⟩) → ((zs.map (·.cps.toList)).flatten).length = zs.length ∧ (∀ c ∈ (zs.map (·.cps.toList)).flatten, c ∈ T) ∧ (zs.map (·.length)).sum = zs.length
  | [], _ => ⟨rfl, fun c h => (List.not_mem_nil h).elim, rfl⟩
  | z :: zs, h => by
    obtain ⟨c, hc, rfl⟩ := h z (by simp)
    obtain ⟨e1, e2, e3⟩ := letters_flat zs fun z hz => h z (List.mem_cons_of_mem _ hz)
    refine ⟨?_, fun d hd => ?_, ?_⟩
    · simp only [List.map_cons, List.flatten_cons, List.length_append, e1, List.length_cons]
      show (#[c] : Array Nat).toList.length + zs.length = _
      simp
      omega
    · simp only [List.map_cons, List.flatten_cons, List.mem_append] at hd
      rcases hd with hd | hd
      · have : d = c := by simpa using hd
        rw [this]; exact hc
      · exact e2 d hd
    · simp only [List.map_cons, List.sum_cons, List.length_cons, e3]
      show (#[c] : Array Nat).size + zs.length = _
      simp
      omega
theorem join_size {T : List Nat} {zs : List Str} (h : ∀ z ∈ zs, ∃ c ∈ T, z = ⟨#[c]⟩) : (Txt.join Str.empty zs).cps.size = zs.length ∧ ∀ c ∈ (Txt.join Str.empty zs).cps.toList, c ∈ T := by
  obtain ⟨e1, e2, _⟩ := letters_flat zs h
  rw [← Array.length_toList, glued_nil]
  exact ⟨e1, e2⟩
noncomputable def spRule (d : Nat) : Sp := fun vs H Q _ => ∃ (D : Dk) (l : Addr) (ns : List Str) (m : Nat), vs = [.ref D.d, .ref l, .int m] ∧ D.At H ∧ H l = some (.lst (ns.map V.str)) ∧ ns ≠ [] ∧ ns.length ≤ 1000 ∧ 1 ≤ m ∧ m ≤ d ∧
  ∀ v r H', RAt H' v r → r.ok ns → r.dep ≤ m → Kp D H H' → Q v H'
theorem atI_str {t : Str} {r : Int} (h0 : 0 ≤ r) (h1 : r < t.cps.size) : ∃ c, atI t.cps.toList r = some c ∧ c ∈ t.cps.toList := by
  have hr : r.toNat < t.cps.toList.length := by rw [Array.length_toList]; omega
  refine ⟨t.cps.toList[r.toNat], ?_, List.getElem_mem hr⟩
  have e : r = ((r.toNat : Nat) : Int) := by omega
  have q := atI_nat (xs := t.cps.toList) (j := r.toNat) (v := t.cps.toList[r.toNat]) (List.getElem?_eq_getElem hr)
  rw [← e] at q
  exact q
section
variable {P : Program} {w : World} {K : PySem.W.Frag} {mg : Str → Option Value} {base : Heap} {TT : Addr}
theorem sc_law_rule : FnScope ["deck", "names", "deep", "kind", "one"] ["deck", "names", "deep"] (defScope (top 17)) := ⟨rfl, rfl, rfl, by decide +kernel, rfl, by decide +kernel, by decide +kernel⟩
theorem ok_rule {f : Addr} {fd : FuncData} (Fu : Fun K "_law_rule" "_law_rule" (top 17) f fd) (T : Txt K mg TT) (f_law_draw : Fn P w K mg base "_law_draw" ["deck", "many"] 1 spDraw) (hm : mg "_law_rule" = some (.ref f)) (hk : PySem.W.keepIn K (.ref f) = true) (hb : Binds K fd ["deck", "names", "deep"] []) : ∀ d, FnOk P w K mg base CX0 (d + 1) f fd ["deck", "names", "deep"] (spRule d)
  | 0 => fnok_false fun vs H Q E ⟨D, l, ns, m, _, _, _, _, _, h1, h2, _⟩ => by omega
  | d + 1 => by
    have S := sc_law_rule
    have f_law_rule : Fn P w K mg base "_law_rule" ["deck", "names", "deep"] (d + 1) (spRule d) := ⟨f, fd, ok_rule Fu T f_law_draw hm hk hb d, hm, hk, hb⟩
    refine Fu.ok S (fun vs H Q E h => ?_) (fun cdv A outer s H vs Q E hr h => ?_)
    · obtain ⟨D, l, ns, m, rfl, _⟩ := h
      rfl
    · obtain ⟨D, l, ns, m, rfl, DA, hl, ne, few, m1, m2, k⟩ := h
      refine ⟨_, (pss_cons (ps_set (i := 3) S.nd rfl (by first | exact Or.inl rfl | exact Or.inr rfl) (pe_fn f_law_draw (hr.mono (by first | decide | omega)) (by rfl) (pa_cons (pv 0) (pa_cons pe_int pa_nil))))
      (pss_cons (ps_if (PW.pt (pw_or (pt_cmpR op_eq (pv 2) pe_int (nomark _)) (pw_or1 (pt_cmpR op_lt (pv 3) pe_int (nomark _))))) (pss_one (ps_ret (pe_tup (pa_cons pe_str (pa_cons (pe_ix ix_list (pv 1) (pe_fn f_law_draw (hr.mono (by first | decide | omega)) (by rfl) (pa_cons (pv 0) (pa_cons (pe_callB call_len_seq (by rfl) T.n_len PySem.boot_len (pa_cons (pv 1) pa_nil)) pa_nil))) (fun _ _ => rfl)) pa_nil))))) pss_nil)
      (pss_cons (ps_set (i := 4) S.nd rfl (by first | exact Or.inl rfl | exact Or.inr rfl) (pe_fn f_law_rule (hr.mono (by first | decide | omega)) (by rfl) (pa_cons (pv 0) (pa_cons (pv 1) (pa_cons (pe_op op_sub (pv 2) pe_int) pa_nil)))))
      (pss_cons (ps_if (pt_cmpR op_eq (pv 3) pe_int (nomark _)) (pss_one (ps_ret (pe_tup (pa_cons pe_str (pa_cons (pv 4) pa_nil))))) pss_nil)
      (pss_one (ps_ret (pe_tup (pa_cons (pe_ix ix_list (pe_lst (pa_cons pe_str (pa_cons pe_str pa_nil))) (pe_fn f_law_draw (hr.mono (by first | decide | omega)) (by rfl) (pa_cons (pv 0) (pa_cons pe_int pa_nil))) (fun _ _ => rfl)) (pa_cons (pv 4) (pa_cons (pe_fn f_law_rule (hr.mono (by first | decide | omega)) (by rfl) (pa_cons (pv 0) (pa_cons (pv 1) (pa_cons (pe_op op_sub (pv 2) pe_int) pa_nil)))) pa_nil)))))))))), ?_⟩
      try dsimp only [cxOf, Cx.nox, Cx.wish]
      rw [show L2.start ["deck", "names", "deep", "kind", "one"] [V.ref D.d, V.ref l, V.int m] = [some (.ref D.d), some (.ref l), some (.int m), none, none] from rfl]
      have nl : 1 ≤ ns.length := by
        cases ns with
        | nil => exact absurd rfl ne
        | cons a r => simp
      repeat walk_at "vc"
      refine ⟨D, 6, rfl, DA, by decide, by decide, fun kind H1 k0 k6 kp1 => ?_⟩
      have hl1 := kp1.strs DA hl
      have leaf : tTup (tCons (tC (V.str "wire")) (tCons (tOp (rIxL K) (tVar 1) (tCall spDraw [] E0 (tCons (tVar 0) (tCons (tCB (fun xs H Q => ∃ p ys, xs = [V.ref p] ∧ (SqL K H p ys ∨ SqT K H p ys) ∧ Q (V.int ↑ys.length) H) (tCons (tVar 1) tNil)) tNil)))) tNil)) [some (.ref D.d), some (.ref l), some (.int m), some (.int kind), none] H1 Q := by
        repeat walk_at "vc"
        refine ⟨D, _, rfl, kp1.dk, by rw [List.length_map]; omega, by rw [List.length_map]; omega, fun r H2 r0 r1 kp2 => ?_⟩
        have hl2 := kp2.strs kp1.dk hl1
        rw [List.length_map] at r1
        have hr' : r.toNat < ns.length := by omega
        have e : atI (ns.map V.str) r = some (.str ns[r.toNat]) := by
          have e : r = ((r.toNat : Nat) : Int) := by omega
          have q := atI_nat (xs := ns.map V.str) (j := r.toNat) (v := .str ns[r.toNat]) (by rw [List.getElem?_map, List.getElem?_eq_getElem hr']; rfl)
          rw [← e] at q
          exact q
        refine i_ixL (SqL.of hl2) e ?_
        repeat walk_at "vc"
        refine ⟨by simp [sizeLine], fun p hp => ?_⟩
        exact k _ (.w ns[r.toNat]) _ (.w upd_same) (List.getElem_mem hr') (by simp [Rl.dep]; omega) ((kp1.trans kp2).new hp)
      repeat walk_at "vc"
      refine ite2 (fun h1 => ?_) (fun h1 => ?_)
      · exact iteT leaf
      · have m3 : m ≠ 1 := by
          intro z
          subst z
          exact h1 (by decide +kernel)
        repeat walk_at "vc"
        refine ite2 (fun h2 => ?_) (fun h2 => ?_)
        · exact leaf
        · repeat walk_at "vc"
          refine ⟨D, l, ns, m - 1, ?_, kp1.dk, hl1, ne, few, by omega, by omega, fun v r H2 hv rok rd kp2 => ?_⟩
          · have : (m : Int) - 1 = ((m - 1 : Nat) : Int) := by omega
            rw [this]
          have hl2 := kp2.strs kp1.dk hl1
          have kp12 := kp1.trans kp2
          repeat walk_at "vc"
          refine ite2 (fun h3 => ?_) (fun h3 => ?_)
          · repeat walk_at "vc"
            refine ⟨by simp [sizeLine], fun p hp => ?_⟩
            exact k _ (.no r) _ (.no upd_same (hv.mono (Same.tups (fresh_same hp)))) rok (by simp only [Rl.dep]; omega) (kp12.new hp)
          · repeat walk_at "vc"
            refine ⟨by simp [sizeLine], fun p hp => ?_⟩
            have hpp : upd H2 p (HO.lst [V.str "and", V.str "or"]) p = some (.lst ((["and", "or"] : List Str).map V.str)) := upd_same
            have S3 := fresh_same (o := HO.lst [V.str "and", V.str "or"]) hp
            have kp3 := Kp.of kp12.dk S3
            generalize upd H2 p (HO.lst [V.str "and", V.str "or"]) = H3 at *
            repeat walk_at "vc"
            refine ⟨D, 2, rfl, kp3.dk, by decide, by decide, fun r' H4 r0 r1 kp4 => ?_⟩
            have hp4 := kp4.strs kp3.dk hpp
            have hv4 := (hv.mono (Same.tups S3)).mono (kp4.tups kp3.dk)
            have hl4 := kp4.strs kp3.dk (S3 _ _ hl2)
            have kp14 := kp12.trans (kp3.trans kp4)
            have last : ∀ (wd : Str) (mk : Rl → Rl → Rl), (∀ {H : Hp} {a : Addr} {v u : V} {r s : Rl}, H a = some (.tup [.str wd, v, u]) → RAt H v r → RAt H u s → RAt H (.ref a) (mk r s)) → (∀ r s, (mk r s).dep = max r.dep s.dep + 1) → (∀ r s, r.ok ns → s.ok ns → (mk r s).ok ns) →
                tCons (tVar 4) (tCons (tCall (spRule d) [] E0 (tCons (tVar 0) (tCons (tVar 1) (tCons (tOp (rI0 fun i j => V.int (i - j)) (tVar 2) (tC (V.int 1))) tNil)))) tNil) [some (.ref D.d), some (.ref l), some (.int m), some (.int kind), some v] H4
                  fun xs H5 => (V.str wd :: xs).length ≤ sizeLine ∧ ∀ p, H5 p = none → Q (.ref p) (upd H5 p (.tup (V.str wd :: xs))) := by
              intro wd mk c1 c2 c3
              repeat walk_at "vc"
              refine ⟨D, l, ns, m - 1, ?_, kp4.dk, hl4, ne, few, by omega, by omega, fun v2 s2 H5 hv2 rok2 rd2 kp5 => ?_⟩
              · have : (m : Int) - 1 = ((m - 1 : Nat) : Int) := by omega
                rw [this]
              repeat walk_at "vc"
              refine ⟨by simp [sizeLine], fun p hp => ?_⟩
              have S6 := fresh_same (o := HO.tup [V.str wd, v, v2]) hp
              exact k _ (mk r s2) _ (c1 upd_same ((hv4.mono (kp5.tups kp4.dk)).mono (Same.tups S6)) (hv2.mono (Same.tups S6))) (c3 _ _ rok rok2) (by rw [c2]; omega) ((kp14.trans kp5).new hp)
            have hr2 : r' = 0 ∨ r' = 1 := by omega
            rcases hr2 with z | z
            · subst z
              refine i_ixL (SqL.of hp4) (v := .str "and") rfl ?_
              exact last "and" .an (fun a b c => .an a b c) (fun _ _ => rfl) (fun _ _ a b => ⟨a, b⟩)
            · subst z
              refine i_ixL (SqL.of hp4) (v := .str "or") rfl ?_
              exact last "or" .orr (fun a b c => .orr a b c) (fun _ _ => rfl) (fun _ _ a b => ⟨a, b⟩)
end
end K2
set_option Elab.async false
set_option linter.all false
set_option maxRecDepth 100000
set_option maxHeartbeats 4000000
namespace K2
open PySem L2
theorem i_un {r : V → Hp → VK → Prop} {ta : TE} {σ : St} {H : Hp} {Q : VK} (q : ta σ H fun x H1 => r x H1 Q) : tUn r ta σ H Q := q
theorem i_rU {g : Int → V} {i : Int} {H : Hp} {Q : VK} (q : Q (g i) H) : rU g (.int i) H Q := ⟨i, rfl, q⟩
local macro_rules | `(tactic| walk_at "vc") => `(tactic| first
  | (with_reducible refine s_seq ?_) | (with_reducible refine s_asg ?_) | (with_reducible refine s_name ?_) | (with_reducible refine s_drop ?_) | (with_reducible refine s_ret ?_) | (with_reducible refine s_if ?_) | (with_reducible refine s_sub ?_) | (with_reducible refine s_next ?_)
  | ((with_reducible refine' i_var ?hv ?_); (case hv => exact rfl)) | (with_reducible refine i_c ?_) | (with_reducible refine i_op ?_) | (with_reducible refine i_rI0 ?_) | (with_reducible refine i_test ?_) | (with_reducible refine i_tB ?_) | (with_reducible refine i_and ?_) | (with_reducible refine i_or ?_)
  | (with_reducible refine i_not ?_) | (with_reducible refine i_andV ?_) | (with_reducible refine i_orV ?_) | (with_reducible refine i_notV ?_) | (with_reducible refine i_ifE ?_) | (with_reducible refine i_nil ?_) | (with_reducible refine i_cons ?_) | (with_reducible refine i_call ?_) | (with_reducible refine i_cb ?_)
  | (with_reducible refine i_tup ?_) | (with_reducible refine i_lst ?_) | (with_reducible refine i_bm ?_) | (with_reducible refine i_sl ?_) | (with_reducible refine i_nopart ?_) | (with_reducible refine i_part ?_) | ((with_reducible show ∃ i, V.int _ = V.int i ∧ _); (refine ⟨_, rfl, ?_⟩)) | ((with_reducible show ∃ k, V.bl _ = V.bl k ∧ _); (refine ⟨_, rfl, ?_⟩)) | ((with_reducible show (∃ i, [V.bl _] = [V.int i] ∧ _) ∨ _); (refine Or.inr ⟨_, rfl, ?_⟩))
  | (with_reducible refine s_for ?_) | (with_reducible refine s_rng1 ?_) | (with_reducible refine s_list ?_) | (with_reducible refine s_str ?_) | (with_reducible refine s_strI ?_) | (with_reducible refine iteF ?_) | (with_reducible refine iteT ?_)
  | ((with_reducible refine' i_ixL ?ha ?hb ?_); (case ha => exact SqL.of (by assumption)); (case hb => exact rfl)) | ((with_reducible refine' i_ixT ?ha ?hb ?_); (case ha => assumption); (case hb => exact rfl))
  | ((with_reducible show ∃ p _, [V.ref _] = [V.ref p] ∧ (SqL _ _ _ _ ∨ SqT _ _ _ _) ∧ _); (refine' ⟨_, _, rfl, Or.inl (SqL.of ?ha), ?_⟩); (case ha => assumption)) | ((with_reducible refine' s_setL ?ha ?hb ?_); (case ha => assumption); (case hb => exact rfl))
  | ((with_reducible refine' i_eq ?ha ?_); (case ha => exact rfl)) | ((with_reducible refine' i_ne ?ha ?_); (case ha => exact rfl))
  | (with_reducible refine i_dget ?_) | (with_reducible refine i_yes ?_) | ((with_reducible show ∃ z, V.str _ = V.str z ∧ _); (refine ⟨_, rfl, ?_⟩))
  | (with_reducible refine i_un ?_) | (with_reducible refine i_rU ?_))

theorem seq_join {A B : TS} {D : Ends} {σ : St} {H : Hp} (J : St → Hp → Prop) (h : ∀ (R : St → Hp → Prop), (∀ σ H, J σ H → R σ H) → A { D with nx := R } σ H) (hJ : ∀ σ H, J σ H → B D σ H) : tSeq A B D σ H := h (B D) hJ
theorem Kp.free {D : Dk} {H H' : Hp} {l : Addr} (k : Kp D H H') (h : H' l = none) : H l = none := by
  cases e : H l with
  | none => rfl
  | some o =>
    by_cases ow : D.own l
    · obtain ⟨⟨n, hd⟩, _, _, _, pools⟩ := k.dk
      rcases ow with z | z
      · rw [z, hd] at h; cases h
      · obtain ⟨a, b, c, e'⟩ := pools l z
        rw [e'] at h; cases h
    · rw [k.old l o e ow] at h; cases h
theorem at_pick {ws : List Str} {r : Int} (h0 : 0 ≤ r) (h1 : r < ws.length) : ∃ n ∈ ws, atI (ws.map V.str) r = some (.str n) := by
  have hr : r.toNat < ws.length := by omega
  refine ⟨ws[r.toNat], List.getElem_mem hr, ?_⟩
  have e : r = ((r.toNat : Nat) : Int) := by omega
  have q := atI_nat (xs := ws.map V.str) (j := r.toNat) (v := .str ws[r.toNat]) (by rw [List.getElem?_map, List.getElem?_eq_getElem hr]; rfl)
  rw [← e] at q
  exact q
theorem se_tup {a : List Expr} {n : Nat} {p : Pos} {es : List Expr} {env : Env} : starEach (.Tuple a n p :: es) env = (false, eval (.Tuple a n p) env) :: starEach es env := by rfl
theorem se_lst {a : List Expr} {p : Pos} {es : List Expr} {env : Env} : starEach (.List a p :: es) env = (false, eval (.List a p) env) :: starEach es env := by rfl
theorem se_call {f : Expr} {a : List Expr} {k : List Keyword} {p : Pos} {es : List Expr} {env : Env} : starEach (.Call f a k p :: es) env = (false, eval (.Call f a k p) env) :: starEach es env := by rfl
theorem se_con {c : Const} {n : Nat} {p : Pos} {es : List Expr} {env : Env} : starEach (.Constant c n p :: es) env = (false, eval (.Constant c n p) env) :: starEach es env := by rfl
theorem se_name {x : Str} {p : Pos} {es : List Expr} {env : Env} : starEach (.Name x p :: es) env = (false, eval (.Name x p) env) :: starEach es env := by rfl
theorem same_gen {H H' : Hp} {p : Addr} {o : HO} (hE : upd H p o = H') (hp : H p = none) : Same H H' := by subst hE; exact fresh_same hp
theorem at_gen {H H' : Hp} {p : Addr} {o : HO} (hE : upd H p o = H') : H' p = some o := by subst hE; exact upd_same
theorem ne_of_none' {H : Hp} {a b : Addr} {o : HO} (h1 : H a = some o) (h2 : H b = none) : b ≠ a := fun z => by rw [z, h1] at h2; cases h2
theorem paired_snoc {α β : Type} {F : α → β → Prop} : ∀ {xs : List α} {ys : List β} {x : α} {y : β}, Paired F xs ys → F x y → Paired F (xs ++ [x]) (ys ++ [y])
  | _, _, _, _, .nil, h => .cons h .nil
  | _, _, _, _, .cons h t, g => .cons h (paired_snoc t g)
theorem paired_mono {α β : Type} {F G : α → β → Prop} (h : ∀ a b, F a b → G a b) : ∀ {xs : List α} {ys : List β}, Paired F xs ys → Paired G xs ys
  | _, _, .nil => .nil
  | _, _, .cons a t => .cons (h _ _ a) (paired_mono h t)
noncomputable def heldR (a : Str) (b : Rl) (c : Str) : Rl := .orr (.an (.w a) b) (.an (.w c) (.orr (.w a) b))
noncomputable def spDeck (K : PySem.W.Frag) : Sp := fun vs H Q _ => ∃ (s : Addr) (ns : List Int), vs = [.ref s] ∧ SqL K H s (ns.map V.int) ∧ ns.length ≤ 63 ∧ ∀ D H', Same H H' → Dk.At D H' → Q (.ref D.d) H'
section
variable {P : Program} {w : World} {K : PySem.W.Frag} {mg : Str → Option Value} {base : Heap} {TT : Addr}
theorem sc_law_deck : FnScope ["script", "pools", "k", "cell"] ["script"] (defScope (top 15)) := ⟨rfl, rfl, rfl, by decide +kernel, rfl, by decide +kernel, by decide +kernel⟩
theorem ok_deck {f : Addr} {fd : FuncData} (Fu : Fun K "_law_deck" "_law_deck" (top 15) f fd) (T : Txt K mg TT) : FnOk P w K mg base CX0 1 f fd ["script"] (spDeck K) := by
  have S := sc_law_deck
  refine Fu.ok S (fun vs H Q E h => ?_) (fun cdv A outer s H vs Q E hr h => ?_)
  · obtain ⟨a, ns, rfl, _⟩ := h
    rfl
  · obtain ⟨a, ns, rfl, hS, hlen, k⟩ := h
    refine ⟨_, (pss_cons (ps_set (i := 1) S.nd rfl (by first | exact Or.inl rfl | exact Or.inr rfl) (pe_lst pa_nil))
      (pss_cons (ps_for PassesOwn.never rfl (pi_range1 (by rfl) T.n_range (pa_cons (pe_callB (call_max2 rfl) (by rfl) T.n_max PyProof.Rows.boot_max (pa_cons pe_int (pa_cons (pe_callB (call_min2 rfl) (by rfl) T.n_min PyProof.Rows.boot_min (pa_cons pe_int (pa_cons (pe_callB call_len_seq (by rfl) T.n_len PySem.boot_len (pa_cons (pv 0) pa_nil)) pa_nil))) pa_nil))) pa_nil)) (pg_name (i := 2) S.nd rfl (by first | exact Or.inl rfl | exact Or.inr rfl))
      (pss_cons (ps_set (i := 3) S.nd rfl (by first | exact Or.inl rfl | exact Or.inr rfl) pe_int)
      (pss_cons (ps_if (pt_cmpR op_lt (pv 2) (pe_callB call_len_seq (by rfl) T.n_len PySem.boot_len (pa_cons (pv 0) pa_nil)) (nomark _)) (pss_one (ps_set (i := 3) S.nd rfl (by first | exact Or.inl rfl | exact Or.inr rfl) (pe_ix ix_list (pv 0) (pv 2) (fun _ _ => rfl)))) pss_nil)
      (pss_one (ps_expr (pe_bm PySem.F.plainAttrs_list PySem.F.slot_list_append PySem.F.type_list_append mt_append (pv 1) (pa_cons (pe_lst (pa_cons (pv 3) (pa_cons (pe_callTy call_int1 (by rfl) T.n_int PyProof.Rows.boot_int (pa_cons (pe_cmpR op_ge (pv 3) (pe_op op_pow pe_int pe_int) (nomark _)) pa_nil)) (pa_cons (pe_op op_mul pe_int (pv 2)) pa_nil)))) pa_nil)))))))
      (pss_one (ps_ret (pe_lst (pa_cons (pv 1) (pa_cons pe_int pa_nil))))))), ?_⟩
    try dsimp only [cxOf, Cx.nox, Cx.wish]
    rw [show L2.start ["script", "pools", "k", "cell"] [V.ref a] = [some (.ref a), none, none, none] from rfl]
    have big : 1000 < sizeLine := by decide
    repeat walk_at "vc"
    refine ⟨by decide, fun p hp => ?_⟩
    have S1 := fresh_same (o := .lst []) hp
    have q1 : upd H p (.lst []) p = some (.lst (([] : List Addr).map V.ref)) := upd_same
    generalize upd H p (.lst []) = H1 at *
    repeat walk_at "vc"
    refine ⟨_, _, rfl, Or.inl (S1.seq hS), ?_⟩
    repeat walk_at "vc"
    refine ⟨_, _, rfl, ?_⟩
    repeat walk_at "vc"
    refine ⟨_, _, rfl, ?_⟩
    rw [List.length_map]
    obtain ⟨N, hN, N1, N63⟩ : ∃ N : Nat, (if (if (ns.length : Int) < 63 then (ns.length : Int) else 63) > 1 then (if (ns.length : Int) < 63 then (ns.length : Int) else 63) else 1) = (N : Int) ∧ 1 ≤ N ∧ N ≤ 63 := by
      by_cases h1 : (ns.length : Int) < 63
      · rw [if_pos h1]
        by_cases h2 : (ns.length : Int) > 1
        · rw [if_pos h2]; exact ⟨ns.length, rfl, by omega, by omega⟩
        · rw [if_neg h2]; exact ⟨1, rfl, by omega, by omega⟩
      · rw [if_neg h1, if_pos (by decide)]
        exact ⟨63, rfl, by omega, by omega⟩
    rw [hN]
    repeat walk_at "vc"
    refine ⟨_, rfl, by omega, by omega, ?_⟩
    rw [Int.toNat_natCast]
    refine for_range (fun i σ H' => ∃ x2 x3 qs, σ = [some (.ref a), some (.ref p), x2, x3] ∧ Same H H' ∧ H' p = some (.lst (qs.map V.ref)) ∧ qs.length = i ∧ i ≤ N ∧ ∀ q ∈ qs, ∃ a b c : Int, H' q = some (.lst [.int a, .int b, .int c]))
      ⟨_, _, [], rfl, S1, q1, rfl, Nat.zero_le _, (fun q h => nomatch h)⟩ (fun i σ H' hi pv => ?_) (fun σ H' pv => ?_)
    · obtain ⟨x2, x3, qs, rfl, SS, hpp, hq, _, pools⟩ := pv
      refine s_name ?_
      with_reducible refine s_seq (s_asg (i_c (s_name ?_)))
      with_reducible refine seq_join (fun σ H2 => ∃ c : Int, σ = [some (.ref a), some (.ref p), some (.int (0 + i)), some (.int c)] ∧ H2 = H') (fun R hR => ?_) (fun σ6 H6 j6 => ?_)
      · repeat walk_at "vc"
        refine ⟨_, _, rfl, Or.inl (SS.seq hS), ?_⟩
        repeat walk_at "vc"
        refine ite2 (fun hlt => ?_) (fun _ => hR _ _ ⟨0, rfl, rfl⟩)
        have hlt' : i < ns.length := by
          have := of_decide_eq_true hlt
          rw [List.length_map] at this
          omega
        repeat walk_at "vc"
        refine i_ixL (v := .int ns[i]) (SS.seq hS) ?_ ?_
        · have e : (0 : Int) + (i : Int) = ((i : Nat) : Int) := by omega
          rw [e]
          exact atI_nat (by rw [List.getElem?_map, List.getElem?_eq_getElem hlt']; rfl)
        · exact s_name (hR _ _ ⟨ns[i], rfl, rfl⟩)
      · obtain ⟨c, rfl, rfl⟩ := j6
        repeat walk_at "vc"
        refine ⟨i_tyL hpp, ?_⟩
        repeat walk_at "vc"
        refine i_rI ⟨by decide, by decide, by decide⟩ ?_
        repeat walk_at "vc"
        refine i_rI (.inl ⟨by decide, by decide⟩) ?_
        repeat walk_at "vc"
        refine ⟨by simp [sizeLine], fun q hqn => ?_⟩
        generalize hE : upd _ q _ = H7
        have S7 := same_gen hE hqn
        have q7 := at_gen hE
        clear hE
        have npq : q ≠ p := ne_of_none' hpp hqn
        repeat walk_at "vc"
        refine i_app (S7 _ _ hpp) (by rw [List.length_map]; omega) ?_
        refine ⟨_, _, qs ++ [q], rfl, same_upd (SS.trans S7) hp, by rw [upd_same]; simp, by simp [hq], by omega, fun q' hq' => ?_⟩
        rcases List.mem_append.mp hq' with h | h
        · obtain ⟨a', b', c', e⟩ := pools q' h
          have e7 := S7 _ _ e
          have npq' : q' ≠ p := fun z => by
            rw [z, S7 _ _ hpp] at e7
            have e7 := Option.some.inj e7
            injection e7 with e7
            cases qs with
            | nil => cases e7
            | cons u r => simp at e7
          exact ⟨a', b', c', by rw [upd_ne npq']; exact e7⟩
        · have : q' = q := by simpa using h
          subst this
          exact ⟨_, _, _, by rw [upd_ne npq]; exact q7⟩
    · obtain ⟨x2, x3, qs, rfl, SS, hpp, hq, _, pools⟩ := pv
      have fin : tRet (tLst (tCons (tVar 1) (tCons (tC (V.int 0)) tNil))) { nx := fun x H' => Q V.non H', rt := Q } [some (.ref a), some (.ref p), x2, x3] H' := by
        repeat walk_at "vc"
        refine ⟨by simp [sizeLine], fun d hd => ?_⟩
        have S8 := fresh_same (o := HO.lst [V.ref p, V.int 0]) hd
        refine k ⟨d, p, qs⟩ _ (SS.trans S8) ⟨⟨0, upd_same⟩, S8 _ _ hpp, ?_, by show qs.length ≤ 63; omega, fun q hq' => ?_⟩
        · show qs ≠ []
          intro z
          rw [z] at hq
          simp at hq
          omega
        · obtain ⟨a', b', c', e⟩ := pools q hq'
          exact ⟨a', b', c', S8 _ _ e⟩
      exact fin
end
set_option Elab.async false
set_option linter.all false
set_option maxRecDepth 100000
set_option maxHeartbeats 4000000

noncomputable def Lt : Str := "abcdefghijklmnopqrstuvwxyz"
noncomputable def Xn (t : Nat) : Str := Txt.mul ⟨#[Lt.cps.getD t 0]⟩ 8
theorem Xn_inj : ∀ i, i < 26 → ∀ j, j < 26 → Xn i = Xn j → i = j := by decide +kernel
theorem Xn_low : ∀ t, t < 26 → ∀ c ∈ (Xn t).cps.toList, 97 ≤ c ∧ c ≤ 122 := by decide +kernel
theorem Xn_len : ∀ t, t < 26 → (Xn t).length = 8 := by decide +kernel
theorem mulok (c : Nat) : MulOk ⟨#[c]⟩ 8 := by
  refine ⟨by decide, fun _ _ => ?_, fun _ _ => ?_⟩
  · show ¬ ((1 : Int) > (2 ^ 63 - 1) / 8)
    decide
  · rfl
theorem pigeon : ∀ (xs ys : List Str), xs.Nodup → (∀ x ∈ xs, x ∈ ys) → xs.length ≤ ys.length
  | [], ys, _, _ => Nat.zero_le _
  | x :: xs, ys, nd, h => by
    rw [List.nodup_cons] at nd
    have hx := h x (by simp)
    have := pigeon xs (ys.erase x) nd.2 fun y hy => (List.mem_erase_of_ne (fun z : y = x => nd.1 (by rw [← z]; exact hy))).mpr (h y (List.mem_cons_of_mem _ hy))
    rw [List.length_erase_of_mem hx] at this
    have : 0 < ys.length := List.length_pos_of_mem hx
    rw [List.length_cons]
    omega
theorem Xs_nodup : ∀ t, t ≤ 26 → ((List.range t).map Xn).Nodup
  | 0, _ => by simp
  | t + 1, h => by
    rw [List.range_succ, List.map_append, List.nodup_append]
    refine ⟨Xs_nodup t (by omega), by simp, fun a ha b hb e => ?_⟩
    obtain ⟨i, hi, rfl⟩ := List.mem_map.mp ha
    rw [List.mem_range] at hi
    have : b = Xn t := by simpa using hb
    subst this
    have := Xn_inj i (by omega) t (by omega) e
    omega
theorem few_X {ns : List Str} {t : Nat} (ht : t ≤ 26) (h : ∀ j, j < t → Xn j ∈ ns) : t ≤ ns.length := by
  have := pigeon ((List.range t).map Xn) ns (Xs_nodup t ht) fun x hx => by
    obtain ⟨j, hj, rfl⟩ := List.mem_map.mp hx
    exact h j (List.mem_range.mp hj)
  simpa using this
noncomputable def spNames : Sp := fun vs H Q _ => ∃ (D : Dk) (m : Nat), vs = [.ref D.d, .int m] ∧ D.At H ∧ 1 ≤ m ∧ m ≤ 11 ∧ ∀ l (ns : List Str) H', ns.length = m → ns.Nodup → (∀ n ∈ ns, Low n) → H' l = some (.lst (ns.map V.str)) → Kp D H H' → Q (.ref l) H'
noncomputable def NJ (D : Dk) (H : Hp) (l : Addr) (m i : Nat) (stem : Str) (ns : List Str) : St → Hp → Prop := fun σ H' => ∃ (way : Int) (nm : Str) (x8 x9 : Option V), σ = [some (.ref D.d), some (.int m), some (.str Lt), some (.str stem), some (.ref l), some (.int (0 + i)), some (.int way), some (.str nm), x8, x9] ∧ Low nm ∧ H' l = some (.lst (ns.map V.str)) ∧ Kp D H H'
theorem lt_low : ∀ c ∈ Lt.cps.toList, 97 ≤ c ∧ c ≤ 122 := by decide +kernel
theorem low_mk {z : Str} (h1 : 1 ≤ z.cps.toList.length) (h8 : z.cps.toList.length ≤ 8) (h : ∀ c ∈ z.cps.toList, 97 ≤ c ∧ c ≤ 122) : Low z := by
  have e : z.cps.toList.length = z.length := Array.length_toList ..
  exact ⟨by omega, by omega, h⟩
theorem sl_to {z : Str} {r : Int} (h0 : 0 ≤ r) (h1 : r ≤ z.cps.toList.length) : (Txt.slice z none (some r)).cps.toList = z.cps.toList.take r.toNat := by
  have e : Txt.slice z none (some r) = _ := PySem.StrLaws.sliceText_to ⟨h0, h1⟩
  rw [e, List.drop_zero, show r - 0 = r by omega]
theorem sl_from {z : Str} {r : Int} (h0 : 0 ≤ r) (h1 : r ≤ z.cps.toList.length) : (Txt.slice z (some r) none).cps.toList = z.cps.toList.drop r.toNat := by
  have e : Txt.slice z (some r) none = _ := PySem.StrLaws.sliceText_from ⟨h0, h1⟩
  rw [e]
  show (z.cps.toList.drop r.toNat).take _ = _
  exact List.take_of_length_le (by rw [List.length_drop]; omega)
theorem app_l (a b : Str) : (a ++ b).cps.toList = a.cps.toList ++ b.cps.toList := by
  show (a.cps ++ b.cps).toList = _
  simp
theorem at_last {ns : List Str} (h : ns ≠ []) : ∃ n ∈ ns, atI (ns.map V.str) (-1) = some (.str n) := by
  have hl : 0 < ns.length := List.length_pos_iff.mpr h
  refine ⟨ns[ns.length - 1], List.getElem_mem _, ?_⟩
  have e : ixN (ns.map V.str).length (-1) = some (ns.length - 1) := by
    unfold ixN
    rw [List.length_map, if_neg (by decide), if_pos (by omega)]
    congr 1
    omega
  unfold atI
  rw [e]
  show (ns.map V.str)[ns.length - 1]? = _
  rw [List.getElem?_map, List.getElem?_eq_getElem (by omega)]
  rfl
section
variable {P : Program} {w : World} {K : PySem.W.Frag} {mg : Str → Option Value} {base : Heap} {TT : Addr}
theorem sc_law_names : FnScope ["deck", "many", "letters", "stem", "found", "k", "way", "name", "at", "turn"] ["deck", "many"] (defScope (top 18)) := ⟨rfl, rfl, rfl, by decide +kernel, rfl, by decide +kernel, by decide +kernel⟩
theorem ok_names {f : Addr} {fd : FuncData} (Fu : Fun K "_law_names" "_law_names" (top 18) f fd) (T : Txt K mg TT) (f_law_draw : Fn P w K mg base "_law_draw" ["deck", "many"] 1 spDraw) : FnOk P w K mg base CX0 2 f fd ["deck", "many"] spNames := by
  have S := sc_law_names
  refine Fu.ok S (fun vs H Q E h => ?_) (fun cdv A outer s H vs Q E hr h => ?_)
  · obtain ⟨D, m, rfl, _⟩ := h
    rfl
  · obtain ⟨D, m, rfl, DA, m1, m11, k⟩ := h
    refine ⟨_, (pss_cons (ps_set (i := 2) S.nd rfl (by first | exact Or.inl rfl | exact Or.inr rfl) pe_str)
      (pss_cons (ps_set (i := 3) S.nd rfl (by first | exact Or.inl rfl | exact Or.inr rfl) (pe_bm PySem.F.plainAttrs_str PySem.F.slot_str_join PySem.F.type_str_join mt_join pe_str (pa_cons (pe_lc (tgs := ["k"]) (cap := [("letters", 2), ("deck", 0)]) rfl ⟨rfl, rfl, rfl, rfl, rfl, rfl⟩ (pi_range1 (by rfl) T.n_range (pa_cons pe_int pa_nil)) (fun _ _ _ _ => (pg_name (i := 0) (show List.Nodup [("k" : Str), ("letters" : Str), ("deck" : Str)] by decide +kernel) rfl (by first | exact Or.inl rfl | exact Or.inr rfl))) (fun _ _ _ _ => pifs_nil) (fun _ _ _ _ => (pe_ix ix_str (pv 1) (pe_fn f_law_draw (hr.mono (by first | decide | omega)) (by rfl) (pa_cons (pv 2) (pa_cons pe_int pa_nil))) (fun _ _ => rfl)))) pa_nil)))
      (pss_cons (ps_set (i := 4) S.nd rfl (by first | exact Or.inl rfl | exact Or.inr rfl) (pe_lst pa_nil))
      (pss_cons (ps_for PassesOwn.never rfl (pi_range1 (by rfl) T.n_range (pa_cons (pv 1) pa_nil)) (pg_name (i := 5) S.nd rfl (by first | exact Or.inl rfl | exact Or.inr rfl))
      (pss_cons (ps_set (i := 6) S.nd rfl (by first | exact Or.inl rfl | exact Or.inr rfl) (pe_fn f_law_draw (hr.mono (by first | decide | omega)) (by rfl) (pa_cons (pv 0) (pa_cons pe_int pa_nil))))
      (pss_cons (ps_set (i := 7) S.nd rfl (by first | exact Or.inl rfl | exact Or.inr rfl) (pe_bm PySem.F.plainAttrs_str PySem.F.slot_str_join PySem.F.type_str_join mt_join pe_str (pa_cons (pe_lc (tgs := ["j"]) (cap := [("letters", 2), ("deck", 0)]) rfl ⟨rfl, rfl, rfl, rfl, rfl, rfl⟩ (pi_range1 (by rfl) T.n_range (pa_cons (pe_op op_add pe_int (pe_fn f_law_draw (hr.mono (by first | decide | omega)) (by rfl) (pa_cons (pv 0) (pa_cons pe_int pa_nil)))) pa_nil)) (fun _ _ _ _ => (pg_name (i := 0) (show List.Nodup [("j" : Str), ("letters" : Str), ("deck" : Str)] by decide +kernel) rfl (by first | exact Or.inl rfl | exact Or.inr rfl))) (fun _ _ _ _ => pifs_nil) (fun _ _ _ _ => (pe_ix ix_str (pv 1) (pe_fn f_law_draw (hr.mono (by first | decide | omega)) (by rfl) (pa_cons (pv 2) (pa_cons pe_int pa_nil))) (fun _ _ => rfl)))) pa_nil)))
      (pss_cons (ps_if (pt_cmpR op_eq (pv 6) pe_int (nomark _)) (pss_one (ps_set (i := 7) S.nd rfl (by first | exact Or.inl rfl | exact Or.inr rfl) (pe_op op_add_str (pe_slice sl_str (pv 3) po_none (po_some (pe_fn f_law_draw (hr.mono (by first | decide | omega)) (by rfl) (pa_cons (pv 0) (pa_cons pe_int pa_nil))))) (pe_ix ix_str (pv 2) (pe_fn f_law_draw (hr.mono (by first | decide | omega)) (by rfl) (pa_cons (pv 0) (pa_cons pe_int pa_nil))) (fun _ _ => rfl))))) pss_nil)
      (pss_cons (ps_if (PW.pt (pw_and (pt_cmpR op_eq (pv 6) pe_int (nomark _)) (pw_and1 (pt_cmpR (op_neL hr.units) (pv 4) (pe_lst pa_nil) (nomark _))))) (pss_cons (ps_set (i := 8) S.nd rfl (by first | exact Or.inl rfl | exact Or.inr rfl) (pe_fn f_law_draw (hr.mono (by first | decide | omega)) (by rfl) (pa_cons (pv 0) (pa_cons (pe_callB call_len_str (by rfl) T.n_len PySem.boot_len (pa_cons (pe_ix ix_list (pv 4) (pe_un un_neg pe_int) (fun _ _ => rfl)) pa_nil)) pa_nil))))
      (pss_one (ps_set (i := 7) S.nd rfl (by first | exact Or.inl rfl | exact Or.inr rfl) (pe_op op_add_str (pe_op op_add_str (pe_slice sl_str (pe_ix ix_list (pv 4) (pe_un un_neg pe_int) (fun _ _ => rfl)) po_none (po_some (pv 8))) (pe_ix ix_str (pv 2) (pe_fn f_law_draw (hr.mono (by first | decide | omega)) (by rfl) (pa_cons (pv 0) (pa_cons pe_int pa_nil))) (fun _ _ => rfl))) (pe_slice sl_str (pe_ix ix_list (pv 4) (pe_un un_neg pe_int) (fun _ _ => rfl)) (po_some (pe_op op_add (pv 8) pe_int)) po_none))))) pss_nil)
      (pss_cons (ps_if (pt_cmpR op_eq (pv 6) pe_int (nomark _)) (pss_one (ps_set (i := 7) S.nd rfl (by first | exact Or.inl rfl | exact Or.inr rfl) (pe_ix ix_list (pe_lst (pa_cons pe_str (pa_cons pe_str (pa_cons pe_str (pa_cons pe_str (pa_cons pe_str (pa_cons pe_str (pa_cons pe_str pa_nil)))))))) (pe_fn f_law_draw (hr.mono (by first | decide | omega)) (by rfl) (pa_cons (pv 0) (pa_cons pe_int pa_nil))) (fun _ _ => rfl)))) pss_nil)
      (pss_cons (ps_set (i := 9) S.nd rfl (by first | exact Or.inl rfl | exact Or.inr rfl) pe_int)
      (pss_cons (ps_while PassesOwn.never (pt_cmpR op_in_seq (pv 7) (pv 4) rfl)
      (pss_cons (ps_set (i := 7) S.nd rfl (by first | exact Or.inl rfl | exact Or.inr rfl) (pe_op op_mul_str (pe_ix ix_str (pv 2) (pv 9) (fun _ _ => rfl)) pe_int))
      (pss_one (ps_set (i := 9) S.nd rfl (by first | exact Or.inl rfl | exact Or.inr rfl) (pe_op op_add (pv 9) pe_int)))))
      (pss_one (ps_expr (pe_bm PySem.F.plainAttrs_list PySem.F.slot_list_append PySem.F.type_list_append mt_append (pv 4) (pa_cons (pv 7) pa_nil))))))))))))
      (pss_one (ps_ret (pv 4))))))), ?_⟩
    try dsimp only [cxOf, Cx.nox, Cx.wish]
    rw [show L2.start ["deck", "many", "letters", "stem", "found", "k", "way", "name", "at", "turn"] [V.ref D.d, V.int m] = [some (.ref D.d), some (.int m), none, none, none, none, none, none, none, none] from rfl]
    have z26 : ((Lt.cps.size : Nat) : Int) = 26 := by decide +kernel
    have big : 100000 < sizeLine := by decide
    repeat walk_at "vc"
    refine ⟨rfl, ?_⟩
    repeat walk_at "vc"
    refine i_comp ?_
    repeat walk_at "vc"
    refine ⟨_, rfl, by decide, by decide, fun L hL => ?_⟩
    have step : ∀ (H' : Hp) (Q' : VK) (x : Option V), D.At H' → (∀ c H'', c ∈ Lt.cps.toList → Kp D H' H'' → Q' (.str ⟨#[c]⟩) H'') → tOp rIxS (tVar 1) (tCall spDraw [] E0 (tCons (tVar 2) (tCons (tC (V.int 26)) tNil))) [x, some (.str Lt), some (.ref D.d)] H' Q' := fun H' Q' x DA' kq => by
      repeat walk_at "vc"
      refine ⟨D, 26, rfl, DA', by decide, by decide, fun r H2 r0 r1 k2 => ?_⟩
      obtain ⟨c, e, hc⟩ := atI_str (t := Lt) r0 (by rw [z26]; exact r1)
      exact i_ixS (by decide +kernel) e (kq c H2 hc k2)
    refine comp_letters (t := Lt) (n := 7) DA hL (by decide) (fun x => ⟨rfl, rfl, trivial⟩) (fun i H' Q' DA' kq => step H' Q' _ DA' kq) (fun H1 zs hz hc kp1 hl1 => ?_)
    obtain ⟨st1, st2⟩ := join_size hc
    obtain ⟨_, _, e3⟩ := letters_flat zs hc
    have e0 : ("" : Str) = Str.empty := by decide +kernel
    have e00 : ("" : Str).length = 0 := by decide +kernel
    refine i_nil ⟨"", L, zs, rfl, rfl, SqL.of hl1, by rw [e3, e00]; omega, ?_⟩
    rw [e0]
    have stl : (Txt.join Str.empty zs).length = 7 := by show (Txt.join Str.empty zs).cps.size = 7; rw [st1, hz]
    have stw : ∀ c ∈ (Txt.join Str.empty zs).cps.toList, 97 ≤ c ∧ c ≤ 122 := fun c h => lt_low c (st2 c h)
    have stn : (Txt.join Str.empty zs).cps.toList.length = 7 := by rw [Array.length_toList, st1, hz]
    generalize Txt.join Str.empty zs = stem at *
    repeat walk_at "vc"
    refine ⟨by decide, fun l hl => ?_⟩
    have Hl : H l = none := kp1.free hl
    have hll : upd H1 l (.lst []) l = some (.lst (([] : List Str).map V.str)) := upd_same
    have kp2 : Kp D H (upd H1 l (.lst [])) := kp1.new hl
    generalize upd H1 l (.lst []) = H2 at *
    repeat walk_at "vc"
    refine ⟨_, rfl, by omega, by omega, ?_⟩
    rw [Int.toNat_natCast]
    refine for_range (fun i σ H' => ∃ x5 x6 x7 x8 x9 ns, σ = [some (.ref D.d), some (.int m), some (.str Lt), some (.str stem), some (.ref l), x5, x6, x7, x8, x9] ∧ i ≤ m ∧ ns.length = i ∧ ns.Nodup ∧ (∀ n ∈ ns, Low n) ∧ H' l = some (.lst (ns.map V.str)) ∧ Kp D H H')
      ⟨_, _, _, _, _, [], rfl, Nat.zero_le _, rfl, List.nodup_nil, (fun n h => nomatch h), hll, kp2⟩ (fun i σ H' hi pv => ?_) (fun σ H' pv => ?_)
    · obtain ⟨x5, x6, x7, x8, x9, ns, rfl, _, hn, nd, good, hl', kp⟩ := pv
      have hJ : True := trivial
      have pick : ∀ (H' : Hp) (Q' : VK) (σ : St), σ[0]? = some (some (.ref D.d)) → σ[2]? = some (some (.str Lt)) → D.At H' → (∀ c H'', c ∈ Lt.cps.toList → Kp D H' H'' → Q' (.str ⟨#[c]⟩) H'') → tOp rIxS (tVar 2) (tCall spDraw [] E0 (tCons (tVar 0) (tCons (tC (V.int 26)) tNil))) σ H' Q' := fun H' Q' σ s0 s2 DA' kq => by
        refine i_op (i_var s2 (i_call (i_cons (i_var s0 (i_cons (i_c (i_nil ?_)))))))
        refine ⟨D, 26, rfl, DA', by decide, by decide, fun r H2 r0 r1 k2 => ?_⟩
        obtain ⟨c, e, hc⟩ := atI_str (t := Lt) r0 (by rw [z26]; exact r1)
        exact i_ixS (by decide +kernel) e (kq c H2 hc k2)
      refine s_name ?_
      repeat walk_at "vc"
      refine ⟨D, 4, rfl, kp.dk, by decide, by decide, fun way H3 w0 w4 k3 => ?_⟩
      have hl3 := k3.strs kp.dk hl'
      have kp3 := kp.trans k3
      repeat walk_at "vc"
      refine ⟨rfl, ?_⟩
      repeat walk_at "vc"
      refine i_comp ?_
      repeat walk_at "vc"
      refine ⟨D, 8, rfl, kp3.dk, by decide, by decide, fun r H4 r0 r8 k4 => ?_⟩
      have hl4 := k4.strs kp3.dk hl3
      have kp4 := kp3.trans k4
      repeat walk_at "vc"
      refine ⟨_, rfl, by omega, by omega, fun L2 hL2 => ?_⟩
      refine comp_letters (t := Lt) kp4.dk hL2 (by omega) (fun x => ⟨rfl, rfl, trivial⟩) (fun i H' Q' DA' kq => step H' Q' _ DA' kq) (fun H5 zs hz hc k5 hl5 => ?_)
      obtain ⟨nm1, nm2⟩ := join_size hc
      obtain ⟨_, _, e3⟩ := letters_flat zs hc
      refine i_nil ⟨Str.empty, L2, zs, rfl, rfl, SqL.of hl5, by rw [e3, show Str.empty.length = 0 from rfl]; omega, ?_⟩
      have hnm : Low (Txt.join Str.empty zs) := by
        have : (Txt.join Str.empty zs).length = zs.length := nm1
        exact ⟨by rw [this, hz]; omega, by rw [this, hz]; omega, fun c h => lt_low c (nm2 c h)⟩
      have hl5' := k5.strs kp4.dk hl4
      have kp5 := kp4.trans k5
      generalize Txt.join Str.empty zs = nm at *
      refine s_name ?_
      clear hl5 hz hc nm1 nm2 e3
      with_reducible refine seq_join (NJ D H l m i stem ns) (fun R hR => ?_) (fun σ6 H6 j6 => ?_)
      · have hl6 := hl5'
        have kp6 := kp5
        repeat walk_at "vc"
        refine ite2 (fun _ => ?_) (fun _ => hR _ _ ⟨way, nm, x8, x9, rfl, hnm, hl6, kp6⟩)
        repeat walk_at "vc"
        refine ⟨D, 8, rfl, kp6.dk, by decide, by decide, fun r H7 r0 r8 k7 => ?_⟩
        have hl7 := k7.strs kp6.dk hl6
        have kp7 := kp6.trans k7
        repeat walk_at "vc"
        refine i_slS (by omega) ?_
        refine pick _ _ _ rfl rfl kp7.dk fun c H8 hcL k8 => ?_
        have sl := Txt.slice_le stem none (some r)
        have l1 : (⟨#[c]⟩ : Str).length = 1 := rfl
        refine ⟨_, _, rfl, rfl, by omega, ?_⟩
        refine s_name (hR _ _ ⟨way, _, x8, x9, rfl, ?_, k8.strs kp7.dk hl7, kp7.trans k8⟩)
        have sq := sl_to (z := stem) r0 (by omega)
        refine low_mk ?_ ?_ fun u hu => ?_
        · rw [app_l, List.length_append]; show 1 ≤ _ + 1; omega
        · rw [app_l, List.length_append, sq, List.length_take]; show _ + 1 ≤ 8; omega
        · rw [app_l, sq] at hu
          rcases List.mem_append.mp hu with hu | hu
          · exact stw u (List.mem_of_mem_take hu)
          · rw [show u = c from List.mem_singleton.mp hu]; exact lt_low c hcL
      clear hnm hl5' kp5
      with_reducible refine seq_join (NJ D H l m i stem ns) (fun R hR => ?_) (fun σ7 H7 j7 => ?_)
      · obtain ⟨way, nm, x8, x9, rfl, hnm, hl6, kp6⟩ := j6
        have out : ∀ H', Kp D H6 H' → R [some (.ref D.d), some (.int m), some (.str Lt), some (.str stem), some (.ref l), some (.int (0 + i)), some (.int way), some (.str nm), x8, x9] H' := fun H' kq => hR _ _ ⟨way, nm, x8, x9, rfl, hnm, kq.strs kp6.dk hl6, kp6.trans kq⟩
        have kr : Kp D H6 H6 := Kp.of kp6.dk (Same.refl _)
        repeat walk_at "vc"
        refine ite2 (fun _ => ?_) (fun _ => ?_)
        · repeat walk_at "vc"
          refine ⟨by decide, fun p hp => ?_⟩
          have S7 := fresh_same (o := .lst []) hp
          have kq := Kp.of kp6.dk S7
          have hl7 := S7 _ _ hl6
          refine ⟨l, p, _, [], fun _ => true, rfl, rfl, SqL.of hl7, SqL.of upd_same, (fun j x y _ h => by simp at h), ⟨_, rfl, ?_⟩⟩
          refine ite2 (fun hne => ?_) (fun _ => out _ kq)
          have nne : ns ≠ [] := fun z => by subst z; simp at hne
          obtain ⟨la, hla, ela⟩ := at_last nne
          have gla := good la hla
          have gp := gla.l1
          have gl := gla.l8
          have glt : la.cps.toList.length = la.length := Array.length_toList ..
          generalize upd H6 p (.lst []) = H8 at *
          repeat walk_at "vc"
          refine i_ixL (SqL.of hl7) ela ?_
          repeat walk_at "vc"
          refine ⟨_, rfl, by omega, ?_⟩
          repeat walk_at "vc"
          refine ⟨D, _, rfl, kq.dk, by omega, by omega, fun at1 H9 a0 a1 k9 => ?_⟩
          have hl9 := k9.strs kq.dk hl7
          repeat walk_at "vc"
          refine i_ixL (SqL.of hl9) ela ?_
          repeat walk_at "vc"
          refine i_slS (by omega) ?_
          refine pick _ _ _ rfl rfl k9.dk fun c H10 hcL k10 => ?_
          have sl1 := Txt.slice_le la none (some at1)
          have sl2 := Txt.slice_le la (some (at1 + 1)) none
          have l1 : (⟨#[c]⟩ : Str).length = 1 := rfl
          have lap : ∀ a b : Str, (a ++ b).length = a.length + b.length := fun a b => by show (a.cps ++ b.cps).size = _; rw [Array.size_append]; rfl
          refine ⟨_, _, rfl, rfl, by omega, ?_⟩
          have hl10 := k10.strs k9.dk hl9
          repeat walk_at "vc"
          refine i_ixL (SqL.of hl10) ela ?_
          repeat walk_at "vc"
          refine i_slS (by omega) ?_
          refine ⟨_, _, rfl, rfl, by rw [lap]; omega, ?_⟩
          refine s_name (hR _ _ ⟨way, _, _, x9, rfl, ?_, hl10, kp6.trans (kq.trans (k9.trans k10))⟩)
          have sq1 := sl_to (z := la) a0 (by omega)
          have sq2 := sl_from (z := la) (r := at1 + 1) (by omega) (by omega)
          refine low_mk ?_ ?_ fun u hu => ?_
          · rw [app_l, app_l, List.length_append, List.length_append]; show 1 ≤ _ + 1 + _; omega
          · rw [app_l, app_l, List.length_append, List.length_append, sq1, sq2, List.length_take, List.length_drop]; show _ + 1 + _ ≤ 8; omega
          · rw [app_l, app_l, sq1, sq2] at hu
            rcases List.mem_append.mp hu with hu | hu
            · rcases List.mem_append.mp hu with hu | hu
              · exact gla.low u (List.mem_of_mem_take hu)
              · rw [show u = c from List.mem_singleton.mp hu]; exact lt_low c hcL
            · exact gla.low u (List.mem_of_mem_drop hu)
        · first | exact out _ kr | exact iteF (out _ kr)
      with_reducible refine seq_join (NJ D H l m i stem ns) (fun R hR => ?_) (fun σ8 H8 j8 => ?_)
      · obtain ⟨way, nm, x8, x9, rfl, hnm, hl6, kp6⟩ := j7
        repeat walk_at "vc"
        refine ite2 (fun _ => ?_) (fun _ => hR _ _ ⟨way, nm, x8, x9, rfl, hnm, hl6, kp6⟩)
        repeat walk_at "vc"
        refine ⟨by decide +kernel, fun p hp => ?_⟩
        have S7 := fresh_same (o := .lst ((["a", "wire", "not", "and", "or", "zzzzzzzz", "in"] : List Str).map V.str)) hp
        have kq := Kp.of kp6.dk S7
        have hl7 := S7 _ _ hl6
        have hp7 : upd H7 p (.lst ((["a", "wire", "not", "and", "or", "zzzzzzzz", "in"] : List Str).map V.str)) p = some (.lst ((["a", "wire", "not", "and", "or", "zzzzzzzz", "in"] : List Str).map V.str)) := upd_same
        show tCall spDraw [] E0 (tCons (tVar 0) (tCons (tC (V.int 7)) tNil)) _ (upd H7 p (.lst ((["a", "wire", "not", "and", "or", "zzzzzzzz", "in"] : List Str).map V.str))) _
        generalize upd H7 p (.lst ((["a", "wire", "not", "and", "or", "zzzzzzzz", "in"] : List Str).map V.str)) = H8 at *
        repeat walk_at "vc"
        refine ⟨D, 7, rfl, kq.dk, by decide, by decide, fun r H9 r0 r7 k9 => ?_⟩
        obtain ⟨wd, hw, ew⟩ := at_pick (ws := ["a", "wire", "not", "and", "or", "zzzzzzzz", "in"]) r0 r7
        refine i_ixL (SqL.of (k9.strs kq.dk hp7)) ew ?_
        refine s_name (hR _ _ ⟨way, wd, x8, x9, rfl, ?_, k9.strs kq.dk hl7, kp6.trans (kq.trans k9)⟩)
        have hh : ∀ wd ∈ (["a", "wire", "not", "and", "or", "zzzzzzzz", "in"] : List Str), 1 ≤ wd.length ∧ wd.length ≤ 8 ∧ ∀ c ∈ wd.cps.toList, 97 ≤ c ∧ c ≤ 122 := by decide +kernel
        obtain ⟨q1, q2, q3⟩ := hh wd hw
        exact ⟨q1, q2, q3⟩
      obtain ⟨way, nm, x8, x9, e, hnm, hl6, kp6⟩ := j8
      subst e
      with_reducible refine s_seq (s_asg (i_c (s_name ?_)))
      with_reducible refine seq_join (fun σ H' => ∃ (t : Int) (nm : Str), σ = [some (.ref D.d), some (.int m), some (.str Lt), some (.str stem), some (.ref l), some (.int (0 + i)), some (.int way), some (.str nm), x8, some (.int t)] ∧ Low nm ∧ nm ∉ ns ∧ H' = H8) (fun R hR => ?_) (fun σ9 H9 j9 => ?_)
      · refine ⟨fun n σ H' => ∃ (t : Nat) (nm : Str), n = 26 - t ∧ t ≤ 11 ∧ σ = [some (.ref D.d), some (.int m), some (.str Lt), some (.str stem), some (.ref l), some (.int (0 + i)), some (.int way), some (.str nm), x8, some (.int t)] ∧ Low nm ∧ H' = H8 ∧ (∀ j, j + 1 < t → Xn j ∈ ns) ∧ (1 ≤ t → nm = Xn (t - 1)), ⟨26, 0, nm, rfl, by omega, rfl, hnm, rfl, (fun j h => by omega), (fun h => by omega)⟩, ?_⟩
        rintro n σ H' ⟨t, nm, rfl, t11, rfl, hnm, rfl, q1, q2⟩
        repeat walk_at "vc"
        refine i_in (SqL.of hl6) rfl (flat_strs ns) ?_
        refine ⟨_, rfl, ?_⟩
        refine ite2 (fun hin => ?_) (fun hin => ?_)
        · have hmem := inV_str.mp hin
          have hall : ∀ j, j < t → Xn j ∈ ns := fun j hj => by
            by_cases z : j + 1 < t
            · exact q1 j z
            · have : j = t - 1 := by omega
              rw [this, ← q2 (by omega)]
              exact hmem
          have ht := few_X (by omega) hall
          refine ⟨_, fun σ' H' w => ⟨26 - (t + 1), by omega, w⟩, ?_⟩
          repeat walk_at "vc"
          have et : atI Lt.cps.toList ((t : Nat) : Int) = some (Lt.cps.getD t 0) := by
            refine atI_nat ?_
            have : t < Lt.cps.size := by omega
            simp [Array.getD, this]
          refine i_ixS (by decide +kernel) et ?_
          repeat walk_at "vc"
          refine ⟨_, _, rfl, rfl, mulok _, ?_⟩
          repeat walk_at "vc"
          refine ⟨t + 1, Xn t, rfl, by omega, rfl, ?_, rfl, (fun j hj => hall j (by omega)), (fun _ => rfl)⟩
          have := Xn_len t (by omega)
          exact ⟨by omega, by omega, Xn_low t (by omega)⟩
        · exact hR _ _ ⟨t, nm, rfl, hnm, fun z => hin (inV_str.mpr z), rfl⟩
      obtain ⟨t, nm, e, hnm, hnot, e9⟩ := j9
      subst e e9
      repeat walk_at "vc"
      refine ⟨i_tyL hl6, ?_⟩
      repeat walk_at "vc"
      refine i_app hl6 (by rw [List.length_map]; omega) ?_
      refine ⟨_, _, _, _, _, ns ++ [nm], rfl, by omega, by simp [hn], ?_, fun n hn' => ?_, by rw [upd_same]; simp, Kp.fresh DA Hl kp6⟩
      · rw [List.nodup_append]
        exact ⟨nd, by simp, fun a ha b hb e => hnot (by
          have hb' : b = nm := by simpa using hb
          rw [← hb', ← e]; exact ha)⟩
      · rcases List.mem_append.mp hn' with h | h
        · exact good n h
        · have : n = nm := by simpa using h
          rw [this]; exact hnm
    · obtain ⟨x5, x6, x7, x8, x9, ns, rfl, _, hn, nd, good, hl', kp⟩ := pv
      refine s_ret (te := tVar 4) (D := { nx := fun x H' => Q V.non H', rt := Q }) (i_var rfl ?_)
      exact k l ns H' hn nd good hl' kp
end
set_option Elab.async false
set_option linter.all false
set_option maxRecDepth 100000
set_option maxHeartbeats 4000000
noncomputable def NetQ (ins : List Str) (gs : List (Str × Rl)) : Prop := NetOk ins gs ∧ IsNet ins gs
noncomputable def spNet : Sp := fun vs H Q _ => ∃ (D : Dk), vs = [.ref D.d] ∧ D.At H ∧ ∀ a li lg ins gvs gs H', NAt H' a li lg ins gvs gs → NetQ ins gs → Kp D H H' → Q (.ref a) H'
theorem few_low : ∀ z ∈ (["a", "b", "c", "d", "e"] : List Str), Low z := by
  have h : ∀ z ∈ (["a", "b", "c", "d", "e"] : List Str), 1 ≤ z.length ∧ z.length ≤ 8 ∧ ∀ c ∈ z.cps.toList, 97 ≤ c ∧ c ≤ 122 := by decide +kernel
  exact fun z hz => ⟨(h z hz).1, (h z hz).2.1, (h z hz).2.2⟩
theorem netok_0 : NetQ ["a", "b"] [("c", heldR "a" (.w "b") "c")] := by
  refine ⟨⟨by decide, by decide, fun g hg => ?_, fun n hn => few_low n ?_⟩, by decide, by decide, by decide, by decide +kernel⟩
  · simp only [List.mem_cons, List.not_mem_nil, or_false] at hg
    rcases hg with rfl <;> simp [heldR, Rl.ok, Rl.dep, wiresN]
  · simp only [wiresN, List.map_cons, List.map_nil, List.mem_append, List.mem_cons, List.not_mem_nil, or_false] at hn
    simp only [List.mem_cons, List.not_mem_nil, or_false]
    grind
theorem netok_1 : NetQ [] [("a", .no (.w "c")), ("b", .no (.w "a")), ("c", .no (.w "b"))] := by
  refine ⟨⟨by decide, by decide, fun g hg => ?_, fun n hn => few_low n ?_⟩, by decide, by decide, by decide, by decide +kernel⟩
  · simp only [List.mem_cons, List.not_mem_nil, or_false] at hg
    rcases hg with rfl | rfl | rfl <;> simp [heldR, Rl.ok, Rl.dep, wiresN]
  · simp only [wiresN, List.map_cons, List.map_nil, List.mem_append, List.mem_cons, List.not_mem_nil, or_false] at hn
    simp only [List.mem_cons, List.not_mem_nil, or_false]
    grind
theorem netok_2 : NetQ ["a", "b"] [("c", .no (.orr (.w "a") (.w "d"))), ("d", .no (.orr (.w "b") (.w "c")))] := by
  refine ⟨⟨by decide, by decide, fun g hg => ?_, fun n hn => few_low n ?_⟩, by decide, by decide, by decide, by decide +kernel⟩
  · simp only [List.mem_cons, List.not_mem_nil, or_false] at hg
    rcases hg with rfl | rfl <;> simp [heldR, Rl.ok, Rl.dep, wiresN]
  · simp only [wiresN, List.map_cons, List.map_nil, List.mem_append, List.mem_cons, List.not_mem_nil, or_false] at hn
    simp only [List.mem_cons, List.not_mem_nil, or_false]
    grind
theorem netok_3 : NetQ ["a", "e"] [("b", heldR "a" (.no (.w "c")) "b"), ("c", heldR "b" (.no (.w "d")) "c"), ("d", heldR "c" (.no (.w "e")) "d")] := by
  refine ⟨⟨by decide, by decide, fun g hg => ?_, fun n hn => few_low n ?_⟩, by decide, by decide, by decide, by decide +kernel⟩
  · simp only [List.mem_cons, List.not_mem_nil, or_false] at hg
    rcases hg with rfl | rfl | rfl <;> simp [heldR, Rl.ok, Rl.dep, wiresN]
  · simp only [wiresN, List.map_cons, List.map_nil, List.mem_append, List.mem_cons, List.not_mem_nil, or_false] at hn
    simp only [List.mem_cons, List.not_mem_nil, or_false]
    grind
set_option Elab.async false
set_option linter.all false
set_option maxRecDepth 100000
set_option maxHeartbeats 4000000
local macro_rules | `(tactic| walk_at "kn") => `(tactic| first
  | (with_reducible refine' ps_if ?_ ?_ ?_) | (with_reducible exact pss_nil) | (with_reducible refine' pss_one ?_) | (with_reducible refine' ps_ret ?_) | (with_reducible refine' pe_tup ?_) | (with_reducible refine' pe_lst ?_) | (with_reducible exact pa_nil)
  | (with_reducible refine' pa_cons ?_ ?_ se_con) | (with_reducible refine' pa_cons ?_ ?_ se_name) | (with_reducible refine' pa_cons ?_ ?_ se_tup) | (with_reducible refine' pa_cons ?_ ?_ se_lst) | (with_reducible refine' pa_cons ?_ ?_ se_call) | (with_reducible exact pe_str)
  | (with_reducible refine' ps_expr ?_) | (with_reducible refine' pt_cmpR op_eq ?_ ?_ (nomark _)) | (with_reducible exact pe_int)
  | (with_reducible refine' pe_fn ?_ ?_ ?_ ?_ ?_ se_name ?_)
  | (with_reducible refine' pe_bm PySem.F.plainAttrs_list PySem.F.slot_list_append PySem.F.type_list_append mt_append ?_ ?_))

section
variable {P : Program} {w : World} {K : PySem.W.Frag} {mg : Str → Option Value} {base : Heap} {TT : Addr}
theorem sc_law_known : FnScope ["deck", "kind", "a", "b", "c", "d", "e", "gates"] ["deck"] (defScope (top 20)) := ⟨rfl, rfl, rfl, by decide +kernel, rfl, by decide +kernel, by decide +kernel⟩
theorem ok_known {f : Addr} {fd : FuncData} (Fu : Fun K "_law_known" "_law_known" (top 20) f fd) (T : Txt K mg TT) (f_law_draw : Fn P w K mg base "_law_draw" ["deck", "many"] 1 spDraw) (f_law_held : Fn P w K mg base "_law_held" ["one", "other", "own"] 1 spHeld) : FnOk P w K mg base CX0 2 f fd ["deck"] spNet := by
  have S := sc_law_known
  refine Fu.ok S (fun vs H Q E h => ?_) (fun cdv A outer s H vs Q E hr h => ?_)
  · obtain ⟨D, rfl, _⟩ := h
    rfl
  · obtain ⟨D, rfl, DA, k⟩ := h
    refine' ⟨?_, (pss_cons ?s0 (pss_cons ?s1 (pss_cons ?s2 (pss_cons ?s3 (pss_cons ?s4 (pss_cons ?s5 (pss_cons ?s6 (pss_one ?s7)))))))), ?_⟩
    case s0 => exact (ps_set (i := 1) S.nd rfl (by first | exact Or.inl rfl | exact Or.inr rfl) (pe_fn f_law_draw (hr.mono (by first | decide | omega)) (by rfl) (pa_cons (pv 0) (pa_cons pe_int pa_nil se_con) se_name)))
    case s1 => exact (ps_asg (pe_lc (tgs := ["name"]) (cap := []) rfl ⟨rfl, rfl, rfl, rfl, rfl, rfl⟩ (pi_list (pe_lst (pa_cons pe_str (pa_cons pe_str (pa_cons pe_str (pa_cons pe_str (pa_cons pe_str pa_nil se_con) se_con) se_con) se_con) se_con))) (fun _ _ _ _ => (pg_name (i := 0) (show List.Nodup [("name" : Str)] by decide +kernel) rfl (by first | exact Or.inl rfl | exact Or.inr rfl))) (fun _ _ _ _ => pifs_nil) (fun _ _ _ _ => (pe_tup (pa_cons pe_str (pa_cons (pv 0) pa_nil se_name) se_con)))) (pg_tupL rfl (pgs_cons (pg_name (i := 2) S.nd rfl (by first | exact Or.inl rfl | exact Or.inr rfl)) (pgs_cons (pg_name (i := 3) S.nd rfl (by first | exact Or.inl rfl | exact Or.inr rfl)) (pgs_cons (pg_name (i := 4) S.nd rfl (by first | exact Or.inl rfl | exact Or.inr rfl)) (pgs_cons (pg_name (i := 5) S.nd rfl (by first | exact Or.inl rfl | exact Or.inr rfl)) (pgs_cons (pg_name (i := 6) S.nd rfl (by first | exact Or.inl rfl | exact Or.inr rfl)) pgs_nil)))))))
    case s2 =>
      repeat' (walk_at "kn")
      all_goals (try exact f_law_held)
      all_goals (try exact hr.mono (by decide))
      all_goals (try (first | exact pv 1 | exact pv 2 | exact pv 3 | exact pv 4 | exact pv 5 | exact pv 6 | exact pv 7 | rfl | decide))
    case s3 =>
      repeat' (walk_at "kn")
      all_goals (try exact f_law_held)
      all_goals (try exact hr.mono (by decide))
      all_goals (try (first | exact pv 1 | exact pv 2 | exact pv 3 | exact pv 4 | exact pv 5 | exact pv 6 | exact pv 7 | rfl | decide))
    case s4 =>
      repeat' (walk_at "kn")
      all_goals (try exact f_law_held)
      all_goals (try exact hr.mono (by decide))
      all_goals (try (first | exact pv 1 | exact pv 2 | exact pv 3 | exact pv 4 | exact pv 5 | exact pv 6 | exact pv 7 | rfl | decide))
    case s5 =>
      refine' ps_set (i := 7) S.nd rfl (by first | exact Or.inl rfl | exact Or.inr rfl) ?_
      repeat' (walk_at "kn")
      all_goals (try exact f_law_held)
      all_goals (try exact hr.mono (by decide))
      all_goals (try (first | exact pv 1 | exact pv 2 | exact pv 3 | exact pv 4 | exact pv 5 | exact pv 6 | exact pv 7 | rfl | decide))
    case s6 =>
      refine' ps_expr ?v6
      case v6 =>
        refine' pe_bm PySem.F.plainAttrs_list PySem.F.slot_list_append PySem.F.type_list_append mt_append (pv 7) ?a6
        case a6 =>
          repeat' (walk_at "kn")
          all_goals (try exact f_law_held)
          all_goals (try exact hr.mono (by decide))
          all_goals (try (first | exact pv 1 | exact pv 2 | exact pv 3 | exact pv 4 | exact pv 5 | exact pv 6 | exact pv 7 | rfl | decide))
    case s7 =>
      repeat' (walk_at "kn")
      all_goals (try exact f_law_held)
      all_goals (try exact hr.mono (by decide))
      all_goals (try (first | exact pv 1 | exact pv 2 | exact pv 3 | exact pv 4 | exact pv 5 | exact pv 6 | exact pv 7 | rfl | decide))
    try dsimp only [cxOf, Cx.nox, Cx.wish]
    rw [show L2.start ["deck", "kind", "a", "b", "c", "d", "e", "gates"] [V.ref D.d] = [some (.ref D.d), none, none, none, none, none, none, none] from rfl]
    have big : 1000 < sizeLine := by decide
    repeat walk_at "vc"
    refine ⟨D, 4, rfl, DA, by decide, by decide, fun kind H1 k0 k4 kp1 => ?_⟩
    repeat walk_at "vc"
    refine i_comp ?_
    repeat walk_at "vc"
    refine ⟨by simp [sizeLine], fun p hp => ?_⟩
    generalize hE : upd _ p _ = H2
    have S2 := same_gen hE hp
    have q2 := at_gen hE
    clear hE
    refine ⟨p, rfl, ⟨_, SqL.of q2⟩, fun L hL => ?_⟩
    have wires : ∃ W : Nat → Nat → Hp → List V → Prop, True := ⟨fun _ _ _ _ => True, trivial⟩
    refine comp_list (xs := (["a", "b", "c", "d", "e"] : List Str).map V.str) (fun n H' ys => Same H2 H' ∧ H' L = some (.lst ys) ∧ n ≤ 5 ∧ Paired (fun v m => RAt H' v (.w m)) ys ((["a", "b", "c", "d", "e"] : List Str).take n)) ⟨fresh_same hL, upd_same, by decide, .nil⟩ (fun n H' ys pv => ⟨pv.2.1, SqL.of (pv.1 _ _ q2)⟩) (fun n x H' ys e pv => ?_) (fun H' ys pv => ?_)
    · obtain ⟨SS, hl', n5, pr⟩ := pv
      rw [List.getElem?_map] at e
      cases hn : (["a", "b", "c", "d", "e"] : List Str)[n]? with
      | none => rw [hn] at e; cases e
      | some nm =>
        rw [hn] at e
        cases e
        have hn5 : n < 5 := (List.getElem?_eq_some_iff.mp hn).1
        refine s_name ⟨trivial, i_yes (iteT ?_)⟩
        repeat walk_at "vc"
        refine ⟨by simp [sizeLine], fun t ht => ?_⟩
        have ntl : t ≠ L := ne_of_none' hl' ht
        have S3 := fresh_same (o := .tup [.str "wire", .str nm]) ht
        have ylen := paired_len pr
        rw [List.length_take] at ylen
        refine NextC.mk (S3 _ _ hl') (by simpa using hn5) (by omega) ⟨same_upd (SS.trans S3) hL, upd_same, by omega, ?_⟩
        rw [List.take_succ, hn]
        have kt : KeepT H' (upd (upd H' t (.tup [.str "wire", .str nm])) L (.lst (ys ++ [.ref t]))) := fun b xs eb => by
          have nb : b ≠ L := fun z => by rw [z, hl'] at eb; cases eb
          rw [upd_ne nb]; exact S3 _ _ eb
        exact paired_snoc (paired_mono (fun v m r => r.mono kt) pr) (.w (by rw [upd_ne ntl]; exact upd_same))
    obtain ⟨SS, hl', _, pr⟩ := pv
    cases pr with | @cons va _ _ _ ra pr => ?_
    cases pr with | @cons vb _ _ _ rb pr => ?_
    cases pr with | @cons vc _ _ _ rc pr => ?_
    cases pr with | @cons vd _ _ _ rd pr => ?_
    cases pr with | @cons ve _ _ _ re pr => ?_
    cases pr
    refine ⟨L, _, rfl, SqL.of hl', rfl, ?_⟩
    refine ⟨_, _, rfl, s_name ⟨_, _, rfl, s_name ⟨_, _, rfl, s_name ⟨_, _, rfl, s_name ⟨_, _, rfl, s_name ⟨rfl, ?_⟩⟩⟩⟩⟩⟩
    have kpH : Kp D H H' := kp1.trans (Kp.of kp1.dk (S2.trans SS))
    clear q2 hl' wires
    repeat walk_at "vc"
    refine ite2 (fun _ => ?_) (fun _ => ?_)
    · have S0 : Same H' H' := Same.refl _
      repeat walk_at "vc"
      refine ⟨by simp [sizeLine], fun li hli => ?_⟩
      generalize hE : upd _ li _ = G1
      have S1 := same_gen hE hli
      have q_li := at_gen hE
      clear hE
      repeat walk_at "vc"
      refine ⟨_, _, _, _, _, _, rfl, (ra.mono (Same.tups S1)), (rb.mono (Same.tups S1)), (rc.mono (Same.tups S1)), fun v1 G2 S2 r_v1 => ?_⟩
      repeat walk_at "vc"
      refine ⟨by simp [sizeLine], fun t1 ht1 => ?_⟩
      generalize hE : upd _ t1 _ = G3
      have S3 := same_gen hE ht1
      have q_t1 := at_gen hE
      clear hE
      repeat walk_at "vc"
      refine ⟨by simp [sizeLine], fun lg hlg => ?_⟩
      generalize hE : upd _ lg _ = G4
      have S4 := same_gen hE hlg
      have q_lg := at_gen hE
      clear hE
      repeat walk_at "vc"
      refine ⟨by simp [sizeLine], fun pa hpa => ?_⟩
      generalize hE : upd _ pa _ = G5
      have S5 := same_gen hE hpa
      have q_pa := at_gen hE
      clear hE
      refine k pa li lg ["a", "b"] _ [("c", heldR "a" (.w "b") "c")] _ ⟨q_pa, (S2.trans (S3.trans (S4.trans S5))) _ _ q_li, S5 _ _ q_lg, .cons ⟨t1, v1, rfl, (S4.trans S5) _ _ q_t1, r_v1.mono (Same.tups (S3.trans (S4.trans S5)))⟩ .nil⟩ ?_ (kpH.trans (Kp.of kpH.dk (S1.trans (S2.trans (S3.trans (S4.trans S5))))))
      exact netok_0
    repeat walk_at "vc"
    refine ite2 (fun _ => ?_) (fun _ => ?_)
    · have S0 : Same H' H' := Same.refl _
      repeat walk_at "vc"
      refine ⟨by simp [sizeLine], fun li hli => ?_⟩
      generalize hE : upd _ li _ = G1
      have S1 := same_gen hE hli
      have q_li := at_gen hE
      clear hE
      repeat walk_at "vc"
      refine ⟨by simp [sizeLine], fun n0 hn0 => ?_⟩
      generalize hE : upd _ n0 _ = G2
      have S2 := same_gen hE hn0
      have q_n0 := at_gen hE
      clear hE
      repeat walk_at "vc"
      refine ⟨by simp [sizeLine], fun t0 ht0 => ?_⟩
      generalize hE : upd _ t0 _ = G3
      have S3 := same_gen hE ht0
      have q_t0 := at_gen hE
      clear hE
      repeat walk_at "vc"
      refine ⟨by simp [sizeLine], fun n1 hn1 => ?_⟩
      generalize hE : upd _ n1 _ = G4
      have S4 := same_gen hE hn1
      have q_n1 := at_gen hE
      clear hE
      repeat walk_at "vc"
      refine ⟨by simp [sizeLine], fun t1 ht1 => ?_⟩
      generalize hE : upd _ t1 _ = G5
      have S5 := same_gen hE ht1
      have q_t1 := at_gen hE
      clear hE
      repeat walk_at "vc"
      refine ⟨by simp [sizeLine], fun n2 hn2 => ?_⟩
      generalize hE : upd _ n2 _ = G6
      have S6 := same_gen hE hn2
      have q_n2 := at_gen hE
      clear hE
      repeat walk_at "vc"
      refine ⟨by simp [sizeLine], fun t2 ht2 => ?_⟩
      generalize hE : upd _ t2 _ = G7
      have S7 := same_gen hE ht2
      have q_t2 := at_gen hE
      clear hE
      repeat walk_at "vc"
      refine ⟨by simp [sizeLine], fun lg hlg => ?_⟩
      generalize hE : upd _ lg _ = G8
      have S8 := same_gen hE hlg
      have q_lg := at_gen hE
      clear hE
      repeat walk_at "vc"
      refine ⟨by simp [sizeLine], fun pa hpa => ?_⟩
      generalize hE : upd _ pa _ = G9
      have S9 := same_gen hE hpa
      have q_pa := at_gen hE
      clear hE
      refine k pa li lg [] _ [("a", .no (.w "c")), ("b", .no (.w "a")), ("c", .no (.w "b"))] _ ⟨q_pa, (S2.trans (S3.trans (S4.trans (S5.trans (S6.trans (S7.trans (S8.trans S9))))))) _ _ q_li, S9 _ _ q_lg, .cons ⟨t0, .ref n0, rfl, (S4.trans (S5.trans (S6.trans (S7.trans (S8.trans S9))))) _ _ q_t0, .no ((S3.trans (S4.trans (S5.trans (S6.trans (S7.trans (S8.trans S9)))))) _ _ q_n0) (rc.mono (Same.tups (S1.trans (S2.trans (S3.trans (S4.trans (S5.trans (S6.trans (S7.trans (S8.trans S9))))))))))⟩ (.cons ⟨t1, .ref n1, rfl, (S6.trans (S7.trans (S8.trans S9))) _ _ q_t1, .no ((S5.trans (S6.trans (S7.trans (S8.trans S9)))) _ _ q_n1) (ra.mono (Same.tups (S1.trans (S2.trans (S3.trans (S4.trans (S5.trans (S6.trans (S7.trans (S8.trans S9))))))))))⟩ (.cons ⟨t2, .ref n2, rfl, (S8.trans S9) _ _ q_t2, .no ((S7.trans (S8.trans S9)) _ _ q_n2) (rb.mono (Same.tups (S1.trans (S2.trans (S3.trans (S4.trans (S5.trans (S6.trans (S7.trans (S8.trans S9))))))))))⟩ (.nil)))⟩ ?_ (kpH.trans (Kp.of kpH.dk (S1.trans (S2.trans (S3.trans (S4.trans (S5.trans (S6.trans (S7.trans (S8.trans S9))))))))))
      exact netok_1
    repeat walk_at "vc"
    refine ite2 (fun _ => ?_) (fun _ => ?_)
    · have S0 : Same H' H' := Same.refl _
      repeat walk_at "vc"
      refine ⟨by simp [sizeLine], fun li hli => ?_⟩
      generalize hE : upd _ li _ = G1
      have S1 := same_gen hE hli
      have q_li := at_gen hE
      clear hE
      repeat walk_at "vc"
      refine ⟨by simp [sizeLine], fun o0 ho0 => ?_⟩
      generalize hE : upd _ o0 _ = G2
      have S2 := same_gen hE ho0
      have q_o0 := at_gen hE
      clear hE
      repeat walk_at "vc"
      refine ⟨by simp [sizeLine], fun n0 hn0 => ?_⟩
      generalize hE : upd _ n0 _ = G3
      have S3 := same_gen hE hn0
      have q_n0 := at_gen hE
      clear hE
      repeat walk_at "vc"
      refine ⟨by simp [sizeLine], fun t0 ht0 => ?_⟩
      generalize hE : upd _ t0 _ = G4
      have S4 := same_gen hE ht0
      have q_t0 := at_gen hE
      clear hE
      repeat walk_at "vc"
      refine ⟨by simp [sizeLine], fun o1 ho1 => ?_⟩
      generalize hE : upd _ o1 _ = G5
      have S5 := same_gen hE ho1
      have q_o1 := at_gen hE
      clear hE
      repeat walk_at "vc"
      refine ⟨by simp [sizeLine], fun n1 hn1 => ?_⟩
      generalize hE : upd _ n1 _ = G6
      have S6 := same_gen hE hn1
      have q_n1 := at_gen hE
      clear hE
      repeat walk_at "vc"
      refine ⟨by simp [sizeLine], fun t1 ht1 => ?_⟩
      generalize hE : upd _ t1 _ = G7
      have S7 := same_gen hE ht1
      have q_t1 := at_gen hE
      clear hE
      repeat walk_at "vc"
      refine ⟨by simp [sizeLine], fun lg hlg => ?_⟩
      generalize hE : upd _ lg _ = G8
      have S8 := same_gen hE hlg
      have q_lg := at_gen hE
      clear hE
      repeat walk_at "vc"
      refine ⟨by simp [sizeLine], fun pa hpa => ?_⟩
      generalize hE : upd _ pa _ = G9
      have S9 := same_gen hE hpa
      have q_pa := at_gen hE
      clear hE
      refine k pa li lg ["a", "b"] _ [("c", .no (.orr (.w "a") (.w "d"))), ("d", .no (.orr (.w "b") (.w "c")))] _ ⟨q_pa, (S2.trans (S3.trans (S4.trans (S5.trans (S6.trans (S7.trans (S8.trans S9))))))) _ _ q_li, S9 _ _ q_lg, .cons ⟨t0, .ref n0, rfl, (S5.trans (S6.trans (S7.trans (S8.trans S9)))) _ _ q_t0, .no ((S4.trans (S5.trans (S6.trans (S7.trans (S8.trans S9))))) _ _ q_n0) (.orr ((S3.trans (S4.trans (S5.trans (S6.trans (S7.trans (S8.trans S9)))))) _ _ q_o0) (ra.mono (Same.tups (S1.trans (S2.trans (S3.trans (S4.trans (S5.trans (S6.trans (S7.trans (S8.trans S9)))))))))) (rd.mono (Same.tups (S1.trans (S2.trans (S3.trans (S4.trans (S5.trans (S6.trans (S7.trans (S8.trans S9)))))))))))⟩ (.cons ⟨t1, .ref n1, rfl, (S8.trans S9) _ _ q_t1, .no ((S7.trans (S8.trans S9)) _ _ q_n1) (.orr ((S6.trans (S7.trans (S8.trans S9))) _ _ q_o1) (rb.mono (Same.tups (S1.trans (S2.trans (S3.trans (S4.trans (S5.trans (S6.trans (S7.trans (S8.trans S9)))))))))) (rc.mono (Same.tups (S1.trans (S2.trans (S3.trans (S4.trans (S5.trans (S6.trans (S7.trans (S8.trans S9)))))))))))⟩ (.nil))⟩ ?_ (kpH.trans (Kp.of kpH.dk (S1.trans (S2.trans (S3.trans (S4.trans (S5.trans (S6.trans (S7.trans (S8.trans S9))))))))))
      exact netok_2
    have S0 : Same H' H' := Same.refl _
    repeat walk_at "vc"
    refine ⟨by simp [sizeLine], fun n0 hn0 => ?_⟩
    generalize hE : upd _ n0 _ = G1
    have S1 := same_gen hE hn0
    have q_n0 := at_gen hE
    clear hE
    repeat walk_at "vc"
    refine ⟨_, _, _, _, _, _, rfl, (ra.mono (Same.tups S1)), (.no q_n0 (rc.mono (Same.tups S1))), (rb.mono (Same.tups S1)), fun v0 G2 S2 r_v0 => ?_⟩
    repeat walk_at "vc"
    refine ⟨by simp [sizeLine], fun t0 ht0 => ?_⟩
    generalize hE : upd _ t0 _ = G3
    have S3 := same_gen hE ht0
    have q_t0 := at_gen hE
    clear hE
    repeat walk_at "vc"
    refine ⟨by simp [sizeLine], fun n1 hn1 => ?_⟩
    generalize hE : upd _ n1 _ = G4
    have S4 := same_gen hE hn1
    have q_n1 := at_gen hE
    clear hE
    repeat walk_at "vc"
    refine ⟨_, _, _, _, _, _, rfl, (rb.mono (Same.tups (S1.trans (S2.trans (S3.trans S4))))), (.no q_n1 (rd.mono (Same.tups (S1.trans (S2.trans (S3.trans S4)))))), (rc.mono (Same.tups (S1.trans (S2.trans (S3.trans S4))))), fun v1 G5 S5 r_v1 => ?_⟩
    repeat walk_at "vc"
    refine ⟨by simp [sizeLine], fun t1 ht1 => ?_⟩
    generalize hE : upd _ t1 _ = G6
    have S6 := same_gen hE ht1
    have q_t1 := at_gen hE
    clear hE
    repeat walk_at "vc"
    refine ⟨by simp [sizeLine], fun lg hlg => ?_⟩
    generalize hE : upd _ lg _ = G7
    have S7 := same_gen hE hlg
    have q_lg := at_gen hE
    clear hE
    have Hlg : H' lg = none := Same.free (S1.trans (S2.trans (S3.trans (S4.trans (S5.trans S6))))) hlg
    repeat walk_at "vc"
    refine ⟨i_tyL q_lg, ?_⟩
    repeat walk_at "vc"
    refine ⟨by simp [sizeLine], fun n2 hn2 => ?_⟩
    generalize hE : upd _ n2 _ = G8
    have S8 := same_gen hE hn2
    have q_n2 := at_gen hE
    clear hE
    repeat walk_at "vc"
    refine ⟨_, _, _, _, _, _, rfl, (rc.mono (Same.tups (S1.trans (S2.trans (S3.trans (S4.trans (S5.trans (S6.trans (S7.trans S8))))))))), (.no q_n2 (re.mono (Same.tups (S1.trans (S2.trans (S3.trans (S4.trans (S5.trans (S6.trans (S7.trans S8)))))))))), (rd.mono (Same.tups (S1.trans (S2.trans (S3.trans (S4.trans (S5.trans (S6.trans (S7.trans S8))))))))), fun v2 G9 S9 r_v2 => ?_⟩
    repeat walk_at "vc"
    refine ⟨by simp [sizeLine], fun t2 ht2 => ?_⟩
    generalize hE : upd _ t2 _ = G10
    have S10 := same_gen hE ht2
    have q_t2 := at_gen hE
    clear hE
    repeat walk_at "vc"
    refine i_app ((S8.trans (S9.trans S10)) _ _ q_lg) (by simp [sizeLine]) ?_
    generalize hE : upd _ lg _ = GA
    have SA : Same H' GA := by rw [← hE]; exact same_upd (S1.trans (S2.trans (S3.trans (S4.trans (S5.trans (S6.trans (S7.trans (S8.trans (S9.trans S10))))))))) Hlg
    have q_lgA := at_gen hE
    have u0 : GA t0 = some (.tup [.str "b", v0]) := by rw [← hE, upd_ne (ne_of ((S4.trans (S5.trans (S6.trans (S7.trans (S8.trans (S9.trans S10)))))) _ _ q_t0) ((S8.trans (S9.trans S10)) _ _ q_lg) (by intro h; cases h))]; exact (S4.trans (S5.trans (S6.trans (S7.trans (S8.trans (S9.trans S10)))))) _ _ q_t0
    have u1 : GA t1 = some (.tup [.str "c", v1]) := by rw [← hE, upd_ne (ne_of ((S7.trans (S8.trans (S9.trans S10))) _ _ q_t1) ((S8.trans (S9.trans S10)) _ _ q_lg) (by intro h; cases h))]; exact (S7.trans (S8.trans (S9.trans S10))) _ _ q_t1
    have u2 : GA t2 = some (.tup [.str "d", v2]) := by rw [← hE, upd_ne (ne_of ((Same.refl _) _ _ q_t2) ((S8.trans (S9.trans S10)) _ _ q_lg) (by intro h; cases h))]; exact (Same.refl _) _ _ q_t2
    have kA : KeepT G10 GA := fun b xs e => by rw [← hE, upd_ne (ne_of e ((S8.trans (S9.trans S10)) _ _ q_lg) (by intro h; cases h))]; exact e
    have w0 := (r_v0.mono (Same.tups (S3.trans (S4.trans (S5.trans (S6.trans (S7.trans (S8.trans (S9.trans S10))))))))).mono kA
    have w1 := (r_v1.mono (Same.tups (S6.trans (S7.trans (S8.trans (S9.trans S10)))))).mono kA
    have w2 := (r_v2.mono (Same.tups S10)).mono kA
    clear hE
    repeat walk_at "vc"
    refine ⟨by simp [sizeLine], fun li hli => ?_⟩
    generalize hE : upd _ li _ = GB
    have SB := same_gen hE hli
    have q_li := at_gen hE
    clear hE
    repeat walk_at "vc"
    refine ⟨by simp [sizeLine], fun pa hpa => ?_⟩
    generalize hE : upd _ pa _ = GC
    have SC := same_gen hE hpa
    have q_pa := at_gen hE
    clear hE
    refine k pa li lg ["a", "e"] _ [("b", heldR "a" (.no (.w "c")) "b"), ("c", heldR "b" (.no (.w "d")) "c"), ("d", heldR "c" (.no (.w "e")) "d")] _ ⟨q_pa, SC _ _ q_li, (SB.trans SC) _ _ q_lgA, .cons ⟨t0, v0, rfl, (SB.trans SC) _ _ u0, w0.mono (Same.tups (SB.trans SC))⟩ (.cons ⟨t1, v1, rfl, (SB.trans SC) _ _ u1, w1.mono (Same.tups (SB.trans SC))⟩ (.cons ⟨t2, v2, rfl, (SB.trans SC) _ _ u2, w2.mono (Same.tups (SB.trans SC))⟩ (.nil)))⟩ ?_ (kpH.trans (Kp.of kpH.dk (SA.trans (SB.trans SC))))
    exact netok_3
end
set_option Elab.async false
set_option linter.all false
set_option maxRecDepth 100000
set_option maxHeartbeats 4000000

theorem cut_from {xs : List V} {a : Nat} (h : a ≤ xs.length) : cutV xs (some (a : Int)) none = xs.drop a := by
  unfold cutV
  rw [HT.sIx_nat, HT.sIx_none, Nat.min_eq_left h, List.take_of_length_le (by rw [List.length_drop]; omega)]
theorem cut_to {xs : List V} {a : Nat} (h : a ≤ xs.length) : cutV xs none (some (a : Int)) = xs.take a := by
  unfold cutV
  rw [HT.sIx_nat, HT.sIx_none, Nat.min_eq_left h]
  simp
theorem notOwn_fresh {D : Dk} {H : Hp} {p : Addr} (DA : D.At H) (hp : H p = none) : ¬ D.own p := fun z => by
  obtain ⟨⟨n, hd⟩, _, _, _, pools⟩ := DA
  rcases z with z | z
  · rw [z, hd] at hp; cases hp
  · obtain ⟨a, b, c, e⟩ := pools p z
    rw [e] at hp; cases hp
section
variable {P : Program} {w : World} {K : PySem.W.Frag} {mg : Str → Option Value} {base : Heap} {TT : Addr}
theorem sc_law_net : FnScope ["deck", "inputs", "gates", "names", "found", "name", "deep"] ["deck"] (defScope (top 21)) := ⟨rfl, rfl, rfl, by decide +kernel, rfl, by decide +kernel, by decide +kernel⟩
theorem ok_net {f : Addr} {fd : FuncData} (Fu : Fun K "_law_net" "_law_net" (top 21) f fd) (T : Txt K mg TT) (f_law_draw : Fn P w K mg base "_law_draw" ["deck", "many"] 1 spDraw) (f_law_known : Fn P w K mg base "_law_known" ["deck"] 2 spNet)
    (f_law_names : Fn P w K mg base "_law_names" ["deck", "many"] 2 spNames) (f_law_rule : Fn P w K mg base "_law_rule" ["deck", "names", "deep"] 11 (spRule 10)) : FnOk P w K mg base CX0 12 f fd ["deck"] spNet := by
  have S := sc_law_net
  refine Fu.ok S (fun vs H Q E h => ?_) (fun cdv A outer s H vs Q E hr h => ?_)
  · obtain ⟨D, rfl, _⟩ := h
    rfl
  · obtain ⟨D, rfl, DA, k⟩ := h
    refine ⟨_, (pss_cons (ps_if (pt_cmpR op_eq (pe_fn f_law_draw (hr.mono (by first | decide | omega)) (by rfl) (pa_cons (pv 0) (pa_cons pe_int pa_nil se_con) se_name)) pe_int (nomark _)) (pss_one (ps_ret (pe_fn f_law_known (hr.mono (by first | decide | omega)) (by rfl) (pa_cons (pv 0) pa_nil se_name)))) pss_nil)
      (pss_cons (ps_set (i := 1) S.nd rfl (by first | exact Or.inl rfl | exact Or.inr rfl) (pe_fn f_law_draw (hr.mono (by first | decide | omega)) (by rfl) (pa_cons (pv 0) (pa_cons pe_int pa_nil se_con) se_name)))
      (pss_cons (ps_set (i := 2) S.nd rfl (by first | exact Or.inl rfl | exact Or.inr rfl) (pe_op op_add pe_int (pe_fn f_law_draw (hr.mono (by first | decide | omega)) (by rfl) (pa_cons (pv 0) (pa_cons pe_int pa_nil se_con) se_name))))
      (pss_cons (ps_set (i := 3) S.nd rfl (by first | exact Or.inl rfl | exact Or.inr rfl) (pe_fn f_law_names (hr.mono (by first | decide | omega)) (by rfl) (pa_cons (pv 0) (pa_cons (pe_op op_add (pv 1) (pv 2)) pa_nil) se_name)))
      (pss_cons (ps_set (i := 4) S.nd rfl (by first | exact Or.inl rfl | exact Or.inr rfl) (pe_lst pa_nil))
      (pss_cons (ps_for PassesOwn.never rfl (pi_list (pe_slice sl_list (pv 3) (po_some (pv 1)) po_none)) (pg_name (i := 5) S.nd rfl (by first | exact Or.inl rfl | exact Or.inr rfl))
      (pss_cons (ps_set (i := 6) S.nd rfl (by first | exact Or.inl rfl | exact Or.inr rfl) (pe_ix ix_list (pe_lst (pa_cons pe_int (pa_cons pe_int (pa_cons (pe_ix ix_list (pe_lst (pa_cons pe_int (pa_cons pe_int pa_nil se_con) se_con)) (pe_callTy call_int1 (by rfl) T.n_int PyProof.Rows.boot_int (pa_cons (pe_cmpR (op_eqL hr.units) (pv 4) (pe_lst pa_nil) (nomark _)) pa_nil)) (fun _ _ => rfl)) pa_nil) se_con) se_con)) (pe_fn f_law_draw (hr.mono (by first | decide | omega)) (by rfl) (pa_cons (pv 0) (pa_cons pe_int pa_nil se_con) se_name)) (fun _ _ => rfl)))
      (pss_one (ps_expr (pe_bm PySem.F.plainAttrs_list PySem.F.slot_list_append PySem.F.type_list_append mt_append (pv 4) (pa_cons (pe_tup (pa_cons (pv 5) (pa_cons (pe_fn f_law_rule (hr.mono (by first | decide | omega)) (by rfl) (pa_cons (pv 0) (pa_cons (pv 3) (pa_cons (pv 6) pa_nil se_name) se_name) se_name)) pa_nil se_call) se_name)) pa_nil se_tup))))))
      (pss_one (ps_ret (pe_tup (pa_cons (pe_slice sl_list (pv 3) po_none (po_some (pv 1))) (pa_cons (pv 4) pa_nil se_name))))))))))), ?_⟩
    try dsimp only [cxOf, Cx.nox, Cx.wish]
    rw [show L2.start ["deck", "inputs", "gates", "names", "found", "name", "deep"] [V.ref D.d] = [some (.ref D.d), none, none, none, none, none, none] from rfl]
    have big : 1000 < sizeLine := by decide
    repeat walk_at "vc"
    refine ⟨D, 5, rfl, DA, by decide, by decide, fun r H1 r0 r5 kp1 => ?_⟩
    repeat walk_at "vc"
    refine ite2 (fun _ => ?_) (fun _ => ?_)
    · repeat walk_at "vc"
      exact ⟨D, rfl, kp1.dk, fun a li lg ins gvs gs H' NA ok kq => k a li lg ins gvs gs H' NA ok (kp1.trans kq)⟩
    repeat walk_at "vc"
    refine ⟨D, 5, rfl, kp1.dk, by decide, by decide, fun ni H2 i0 i5 kp2 => ?_⟩
    repeat walk_at "vc"
    refine ⟨D, 7, rfl, kp2.dk, by decide, by decide, fun ng H3 g0 g7 kp3 => ?_⟩
    obtain ⟨I, rfl⟩ : ∃ I : Nat, ni = (I : Int) := ⟨ni.toNat, by omega⟩
    obtain ⟨G, rfl⟩ : ∃ G : Nat, ng = (G : Int) := ⟨ng.toNat, by omega⟩
    have kp13 := kp1.trans (kp2.trans kp3)
    repeat walk_at "vc"
    have en : (I : Int) + (1 + (G : Int)) = ((I + 1 + G : Nat) : Int) := by omega
    rw [en]
    refine ⟨D, I + 1 + G, rfl, kp3.dk, by omega, by omega, fun l ns H4 hn nd ln hl kp4 => ?_⟩
    have kp14 := kp13.trans kp4
    repeat walk_at "vc"
    refine ⟨by decide, fun p hp => ?_⟩
    generalize hE : upd _ p _ = H5
    have S5 := same_gen hE hp
    have q5 := at_gen hE
    clear hE
    have hl5 := S5 _ _ hl
    have Hp0 : H p = none := kp14.free hp
    have kp15 := kp14.trans (Kp.of kp14.dk S5)
    repeat walk_at "vc"
    have lns : (ns.map V.str).length = I + 1 + G := by rw [List.length_map]; exact hn
    refine i_slL (SqL.of hl5) fun q hq => ?_
    rw [cut_from (by rw [lns]; omega), ← List.map_drop]
    generalize hE : upd _ q _ = H6
    have S6 := same_gen hE hq
    have q6 := at_gen hE
    clear hE
    have kp16 := kp15.trans (Kp.of kp15.dk S6)
    have Hq0 : H q = none := kp15.free hq
    have npq : p ≠ q := ne_of_none q5 hq
    have nlq : l ≠ q := ne_of_none hl5 hq
    have nlp : l ≠ p := ne_of_none hl hp
    refine ⟨q, rfl, ⟨_, SqL.of q6⟩, ?_⟩
    refine for_list (K := K) (xs := (ns.drop I).map V.str) (fun j σ H' => ∃ x5 x6 gvs gs, σ = [some (.ref D.d), some (.int I), some (.int (1 + G)), some (.ref l), some (.ref p), x5, x6] ∧ gs.map (·.1) = (ns.drop I).take j ∧ gs.length = j ∧ H' p = some (.lst gvs) ∧ Paired (GAt H') gvs gs ∧ (∀ g ∈ gs, g.2.ok ns ∧ g.2.dep ≤ 10) ∧ H' l = some (.lst (ns.map V.str)) ∧ H' q = some (.lst ((ns.drop I).map V.str)) ∧ Kp D H H')
      ⟨none, none, [], [], rfl, rfl, rfl, S6 _ _ q5, .nil, (fun g h => nomatch h), S6 _ _ hl5, q6, kp16⟩ (fun j σ H' _ pv => ?_) (fun j x σ H' hx pv => ?_) (fun σ H' pv => ?_)
    · obtain ⟨_, _, _, _, _, _, _, _, _, _, _, h, _⟩ := pv
      exact SqL.of h
    · obtain ⟨x5, x6, gvs, gs, rfl, hgs, hj, hp', gts, gok, hl', hq', kp⟩ := pv
      rw [List.getElem?_map] at hx
      cases hnm : (ns.drop I)[j]? with
      | none => rw [hnm] at hx; cases hx
      | some nm =>
        rw [hnm] at hx
        cases hx
        have hjl : j < (ns.drop I).length := (List.getElem?_eq_some_iff.mp hnm).1
        rw [List.length_drop, hn] at hjl
        have lgv := paired_len gts
        refine s_name ?_
        repeat walk_at "vc"
        refine ⟨by simp [sizeLine], fun p1 hp1 => ?_⟩
        generalize hE : upd _ p1 _ = H7
        have S7 := same_gen hE hp1
        have q7 := at_gen hE
        clear hE
        repeat walk_at "vc"
        refine ⟨by simp [sizeLine], fun p2 hp2 => ?_⟩
        generalize hE : upd _ p2 _ = H8
        have S8 := same_gen hE hp2
        have q8 := at_gen hE
        clear hE
        have hp8 := (S7.trans S8) _ _ hp'
        refine ⟨p, p2, gvs, [], fun _ => true, rfl, rfl, SqL.of hp8, SqL.of q8, (fun j x y _ h => by simp at h), ?_⟩
        repeat walk_at "vc"
        obtain ⟨c, ec, hc⟩ : ∃ c : Nat, atI [V.int 4, V.int 10] (if (if false = true then !(gvs.length == ([] : List V).length && (List.range gvs.length).all fun _ => true) else (gvs.length == ([] : List V).length && (List.range gvs.length).all fun _ => true)) = true then 1 else 0) = some (.int c) ∧ (c = 4 ∨ c = 10) := by
          cases (if false = true then !(gvs.length == ([] : List V).length && (List.range gvs.length).all fun _ => true) else (gvs.length == ([] : List V).length && (List.range gvs.length).all fun _ => true)) with
          | true => exact ⟨10, rfl, .inr rfl⟩
          | false => exact ⟨4, rfl, .inl rfl⟩
        refine i_ixL (SqL.of (S8 _ _ q7)) ec ?_
        repeat walk_at "vc"
        refine ⟨by simp [sizeLine], fun p3 hp3 => ?_⟩
        generalize hE : upd _ p3 _ = H9
        have S9 := same_gen hE hp3
        have q9 := at_gen hE
        clear hE
        have S79 := S7.trans (S8.trans S9)
        have kp9 := kp.trans (Kp.of kp.dk S79)
        have own3 : ¬ D.own p3 := notOwn_fresh (kp.trans (Kp.of kp.dk (S7.trans S8))).dk hp3
        have NA9 := gates_mono (Same.tups S79) gts
        repeat walk_at "vc"
        refine ⟨D, 3, rfl, kp9.dk, by decide, by decide, fun r H10 r0 r3 k10 => ?_⟩
        have hp10 := k10.refs kp9.dk (S79 _ _ hp') (gates_refs gts)
        have hl10 := k10.strs kp9.dk (S79 _ _ hl')
        have hq10 := k10.strs kp9.dk (S79 _ _ hq')
        have g10 := gates_mono (k10.tups kp9.dk) NA9
        have kp10 := kp9.trans k10
        obtain ⟨dp, ed, d1, d10⟩ : ∃ dp : Nat, atI [V.int 3, V.int 4, V.int c] r = some (.int dp) ∧ 1 ≤ dp ∧ dp ≤ 10 := by
          have : r = 0 ∨ r = 1 ∨ r = 2 := by omega
          rcases this with z | z | z
          · subst z; exact ⟨3, rfl, by omega, by omega⟩
          · subst z; exact ⟨4, rfl, by omega, by omega⟩
          · subst z; exact ⟨c, rfl, by omega, by omega⟩
        refine i_ixL (SqL.of (k10.old _ _ q9 own3)) ed ?_
        repeat walk_at "vc"
        refine ⟨i_tyL hp10, ?_⟩
        repeat walk_at "vc"
        refine ⟨D, l, ns, dp, rfl, kp10.dk, hl10, (fun z => by rw [z] at hn; simp at hn; omega), by omega, d1, d10, fun v rr H11 ra rok rd k11 => ?_⟩
        have hp11 := k11.refs kp10.dk hp10 (gates_refs gts)
        have hl11 := k11.strs kp10.dk hl10
        have hq11 := k11.strs kp10.dk hq10
        have g11 := gates_mono (k11.tups kp10.dk) g10
        have kp11 := kp10.trans k11
        repeat walk_at "vc"
        refine ⟨by simp [sizeLine], fun t ht => ?_⟩
        generalize hE : upd _ t _ = H12
        have S12 := same_gen hE ht
        have q12 := at_gen hE
        clear hE
        repeat walk_at "vc"
        refine i_app (S12 _ _ hp11) (by omega) ?_
        have kt : KeepT H12 (upd H12 p (.lst (gvs ++ [.ref t]))) := fun b xs eb => by
          have nb : b ≠ p := fun z => by rw [z, S12 _ _ hp11] at eb; cases eb
          rw [upd_ne nb]; exact eb
        refine ⟨_, _, gvs ++ [.ref t], gs ++ [(nm, rr)], rfl, ?_, by simp [hj], upd_same, paired_snoc (gates_mono kt (gates_mono (Same.tups S12) g11)) ⟨t, v, rfl, kt _ _ q12, (ra.mono (Same.tups S12)).mono kt⟩, fun g hg' => ?_, by rw [upd_ne nlp]; exact S12 _ _ hl11, by rw [upd_ne npq.symm]; exact S12 _ _ hq11, Kp.fresh DA Hp0 (kp11.trans (Kp.of kp11.dk S12))⟩
        · rw [List.map_append, hgs, List.take_succ, hnm]; rfl
        · rcases List.mem_append.mp hg' with h | h
          · exact gok g h
          · have : g = (nm, rr) := by simpa using h
            rw [this]
            exact ⟨rok, by show rr.dep ≤ 10; omega⟩
    · obtain ⟨x5, x6, gvs, gs, rfl, hgs, hj, hp', gts, gok, hl', hq', kp⟩ := pv
      have fin : tRet (tTup (tCons (tSl (rSlL K) (tVar 3) tNoPart (tPart (tVar 1))) (tCons (tVar 4) tNil))) { nx := fun x H' => Q V.non H', rt := Q } [some (.ref D.d), some (.int I), some (.int (1 + G)), some (.ref l), some (.ref p), x5, x6] H' := by
        repeat walk_at "vc"
        refine i_slL (SqL.of hl') fun li hli => ?_
        rw [cut_to (by rw [lns]; omega), ← List.map_take]
        generalize hE : upd _ li _ = H7
        have S7 := same_gen hE hli
        have q7 := at_gen hE
        clear hE
        repeat walk_at "vc"
        refine ⟨by simp [sizeLine], fun pa hpa => ?_⟩
        generalize hE : upd _ pa _ = H8
        have S8 := same_gen hE hpa
        have q8 := at_gen hE
        clear hE
        rw [List.length_map, List.length_drop, hn] at hj hgs
        have ew : wiresN (ns.take I) gs = ns := by
          unfold wiresN
          have e2 : (ns.drop I).take (I + 1 + G - I) = ns.drop I := List.take_of_length_le (by rw [List.length_drop, hn]; exact Nat.le_refl _)
          rw [hgs, e2, List.take_append_drop]
        refine k pa li p (ns.take I) gvs gs H8 ⟨q8, S8 _ _ q7, (S7.trans S8) _ _ hp', gates_mono (Same.tups (S7.trans S8)) gts⟩ ⟨⟨by rw [List.length_take]; omega, by omega, fun g hg' => by rw [ew]; exact gok g hg', by rw [ew]; exact ln⟩, by rw [List.length_take]; omega, by omega, by omega, by rw [ew]; exact nd⟩ (kp.trans (Kp.of kp.dk (S7.trans S8)))
      exact fin
end
set_option Elab.async false
set_option linter.all false
set_option maxRecDepth 100000
set_option maxHeartbeats 4000000
inductive Tr where
  | non | bl (b : Bool) | int (i : Int) | str (z : Str) | lst (ts : List Tr) | tup (ts : List Tr) | dct
inductive Is (D : Addr → Prop) (H : Hp) : Nat → V → Tr → Prop where
  | non {n : Nat} : Is D H n .non .non
  | bl {n : Nat} {b : Bool} : Is D H n (.bl b) (.bl b)
  | int {n : Nat} {i : Int} : Is D H n (.int i) (.int i)
  | str {n : Nat} {z : Str} : z.length ≤ 1000 → Is D H n (.str z) (.str z)
  | lst {n : Nat} {a : Addr} {xs : List V} {ts : List Tr} : ¬ D a → H a = some (.lst xs) → xs.length = ts.length → xs.length ≤ 100 → (∀ (j : Nat) x t, xs[j]? = some x → ts[j]? = some t → Is D H n x t) → Is D H (n + 1) (.ref a) (.lst ts)
  | tup {n : Nat} {a : Addr} {xs : List V} {ts : List Tr} : ¬ D a → H a = some (.tup xs) → xs.length = ts.length → xs.length ≤ 100 → (∀ (j : Nat) x t, xs[j]? = some x → ts[j]? = some t → Is D H n x t) → Is D H (n + 1) (.ref a) (.tup ts)
  | dct {n : Nat} {a : Addr} : ¬ D a → H a = some (.dK []) → Is D H n (.ref a) .dct
noncomputable def KeepD (D : Addr → Prop) (H H' : Hp) : Prop := ∀ b o, H b = some o → ¬ D b → H' b = some o
instance : Coe Dk (Addr → Prop) := ⟨Dk.own⟩
theorem Kp.keepD {D : Dk} {H H' : Hp} (k : Kp D H H') : KeepD D.own H H' := k.old
noncomputable def Al (D : Addr → Prop) (H : Hp) : Prop := ∀ b, H b = none → ¬ D b
theorem Al.same {D : Addr → Prop} {H H' : Hp} (a : Al D H) (S : Same H H') : Al D H' := fun b h => a b (Same.free S h)
theorem Dk.At.al {D : Dk} {H : Hp} (h : D.At H) : Al D.own H := fun b e => notOwn_fresh h e
theorem KeepD.of {D : Addr → Prop} {H H' : Hp} (S : Same H H') : KeepD D H H' := fun b o e _ => S b o e
theorem Is.keep {D : Addr → Prop} {H H' : Hp} (k : KeepD D H H') {n : Nat} {v : V} {t : Tr} (h : Is D H n v t) : Is D H' n v t := by
  induction h with
  | non => exact .non
  | bl => exact .bl
  | int => exact .int
  | str h => exact .str h
  | lst no e l1 l2 _ ih => exact .lst no (k _ _ e no) l1 l2 ih
  | tup no e l1 l2 _ ih => exact .tup no (k _ _ e no) l1 l2 ih
  | dct no e => exact .dct no (k _ _ e no)
theorem Is.up {D : Addr → Prop} {H : Hp} {n : Nat} {v : V} {t : Tr} (h : Is D H n v t) : ∀ {m : Nat}, n ≤ m → Is D H m v t := by
  induction h with
  | non => exact fun _ => .non
  | bl => exact fun _ => .bl
  | int => exact fun _ => .int
  | str h => exact fun _ => .str h
  | lst no e l1 l2 _ ih =>
    intro m h
    obtain ⟨m, rfl⟩ : ∃ q, m = q + 1 := ⟨m - 1, by omega⟩
    exact .lst no e l1 l2 fun j x t h1 h2 => ih j x t h1 h2 (by omega)
  | tup no e l1 l2 _ ih =>
    intro m h
    obtain ⟨m, rfl⟩ : ∃ q, m = q + 1 := ⟨m - 1, by omega⟩
    exact .tup no e l1 l2 fun j x t h1 h2 => ih j x t h1 h2 (by omega)
  | dct no e => exact fun _ => .dct no e
noncomputable def Tr.kd : Tr → String
  | .non => "NoneType" | .bl _ => "bool" | .int _ => "int" | .str _ => "str" | .lst _ => "list" | .tup _ => "tuple" | .dct => "dict"
noncomputable def Tr.isStr : Tr → Bool
  | .str _ => true | _ => false
noncomputable def Tr.isLst : Tr → Bool
  | .lst _ => true | _ => false
noncomputable def Tr.isTup : Tr → Bool
  | .tup _ => true | _ => false
theorem Is.ty {K : PySem.W.Frag} {D : Addr → Prop} {H : Hp} {n : Nat} {v : V} {t : Tr} (h : Is D H n v t) : TyOf K H v (.type t.kd) := by
  cases h with
  | non => exact .non
  | bl => exact .bl _
  | int => exact .int _
  | str h => exact .str _
  | lst no e => exact .lst e
  | tup no e => exact .tup e
  | dct no e => exact .dK e
theorem kit_str {K : PySem.W.Frag} (t : Tr) : PySem.W.kitOne K (.type t.kd) (.type "str") = some t.isStr := by cases t <;> with_unfolding_all rfl
theorem kit_lst {K : PySem.W.Frag} (t : Tr) : PySem.W.kitOne K (.type t.kd) (.type "list") = some t.isLst := by cases t <;> with_unfolding_all rfl
theorem kit_tup {K : PySem.W.Frag} (t : Tr) : PySem.W.kitOne K (.type t.kd) (.type "tuple") = some t.isTup := by cases t <;> with_unfolding_all rfl
section
variable {K : PySem.W.Frag} {D : Addr → Prop} {H : Hp} {n : Nat} {v : V} {t : Tr} {Q : VK}
end
noncomputable def isPair : Tr → Bool
  | .tup ts => decide (ts.length = 2)
  | _ => false
noncomputable def lowC (z : Str) : Bool := z.cps.toList.all fun c => decide (c ∈ Lt.cps.toList)
noncomputable def nameG : Tr → Bool
  | .str z => decide (1 ≤ z.length) && (decide (z.length ≤ 8) && lowC z)
  | _ => false
noncomputable def strOf : Tr → Str
  | .str z => z
  | _ => Str.empty
noncomputable def memT (ws : List Str) : Tr → Bool
  | .str z => inV (.str z) (ws.map V.str)
  | _ => false
noncomputable def partN (z : Str) : Option Nat := if z = "wire" then some 2 else if z = "not" then some 2 else if z = "and" then some 3 else if z = "or" then some 3 else none
noncomputable def ruleG (ws : List Str) : Nat → Tr → Bool
  | 0, _ => false
  | d + 1, .tup (.str z :: ts) => if partN z = some (ts.length + 1) then (if z = "wire" then ts.all (memT ws) else ts.all (ruleG ws d)) else false
  | _ + 1, _ => false
noncomputable def nmOf : Tr → Tr
  | .tup (t :: _) => t
  | _ => .non
noncomputable def rlOf : Tr → Tr
  | .tup (_ :: t :: _) => t
  | _ => .non
noncomputable def good : Tr → Bool
  | .tup [.lst is, .lst gs] => decide (is.length ≤ 4) && (decide (1 ≤ gs.length) && (decide (gs.length ≤ 7) && (gs.all isPair && ((is ++ gs.map nmOf).all nameG && (decide ((is ++ gs.map nmOf).map strOf).Nodup && gs.all fun g => ruleG ((is ++ gs.map nmOf).map strOf) 10 (rlOf g))))))
  | _ => false
theorem names_str {ts : List Tr} (h : ts.all nameG = true) : ∀ {D : Addr → Prop} {H : Hp} {n : Nat} {xs : List V}, xs.length = ts.length → (∀ (j : Nat) x t, xs[j]? = some x → ts[j]? = some t → Is D H n x t) → xs = (ts.map strOf).map V.str := by
  induction ts with
  | nil => intro D H n xs hl _; rw [List.length_nil] at hl; rw [List.length_eq_zero_iff.mp hl]; rfl
  | cons t ts ih =>
    intro D H n xs hl hi
    rw [List.all_cons, Bool.and_eq_true] at h
    cases xs with
    | nil => simp at hl
    | cons x xs =>
      have e1 := hi 0 x t rfl rfl
      have e2 := ih h.2 (by simpa using hl) fun j y u h1 h2 => hi (j + 1) y u (by simpa using h1) (by simpa using h2)
      rw [List.map_cons, List.map_cons, ← e2]
      cases t with
      | str z => cases e1; rfl
      | _ => exact absurd h.1 (by simp [nameG])
theorem pair_open {t : Tr} (h : isPair t = true) : ∃ a b, t = .tup [a, b] := by
  cases t with
  | tup ts =>
    have h : ts.length = 2 := of_decide_eq_true h
    match ts, h with
    | [a, b], _ => exact ⟨a, b, rfl⟩
  | _ => exact absurd h (by simp [isPair])
end K2
set_option Elab.async false
set_option linter.all false
set_option maxRecDepth 100000
set_option maxHeartbeats 4000000

namespace K2
open PySem L2
local macro_rules | `(tactic| walk_at "vc") => `(tactic| first
  | (with_reducible refine s_seq ?_) | (with_reducible refine s_asg ?_) | (with_reducible refine s_name ?_) | (with_reducible refine s_drop ?_) | (with_reducible refine s_ret ?_) | (with_reducible refine s_if ?_) | (with_reducible refine s_sub ?_) | (with_reducible refine s_next ?_)
  | ((with_reducible refine' i_var ?hv ?_); (case hv => exact rfl)) | (with_reducible refine i_c ?_) | (with_reducible refine i_op ?_) | (with_reducible refine i_rI0 ?_) | (with_reducible refine i_test ?_) | (with_reducible refine i_tB ?_) | (with_reducible refine i_and ?_) | (with_reducible refine i_or ?_)
  | (with_reducible refine i_not ?_) | (with_reducible refine i_andV ?_) | (with_reducible refine i_orV ?_) | (with_reducible refine i_notV ?_) | (with_reducible refine i_ifE ?_) | (with_reducible refine i_nil ?_) | (with_reducible refine i_cons ?_) | (with_reducible refine i_call ?_) | (with_reducible refine i_cb ?_)
  | (with_reducible refine i_tup ?_) | (with_reducible refine i_lst ?_) | (with_reducible refine i_bm ?_) | (with_reducible refine i_sl ?_) | (with_reducible refine i_nopart ?_) | (with_reducible refine i_part ?_) | ((with_reducible show ∃ i, V.int _ = V.int i ∧ _); (refine ⟨_, rfl, ?_⟩)) | ((with_reducible show ∃ k, V.bl _ = V.bl k ∧ _); (refine ⟨_, rfl, ?_⟩)) | ((with_reducible show (∃ i, [V.bl _] = [V.int i] ∧ _) ∨ _); (refine Or.inr ⟨_, rfl, ?_⟩))
  | (with_reducible refine s_for ?_) | (with_reducible refine s_rng1 ?_) | (with_reducible refine s_list ?_) | (with_reducible refine s_str ?_) | (with_reducible refine s_strI ?_) | (with_reducible refine iteF ?_) | (with_reducible refine iteT ?_)
  | ((with_reducible refine' i_ixL ?ha ?hb ?_); (case ha => exact SqL.of (by assumption)); (case hb => exact rfl)) | ((with_reducible refine' i_ixT ?ha ?hb ?_); (case ha => assumption); (case hb => exact rfl))
  | ((with_reducible show ∃ p _, [V.ref _] = [V.ref p] ∧ (SqL _ _ _ _ ∨ SqT _ _ _ _) ∧ _); (refine' ⟨_, _, rfl, Or.inl (SqL.of ?ha), ?_⟩); (case ha => assumption)) | ((with_reducible refine' s_setL ?ha ?hb ?_); (case ha => assumption); (case hb => exact rfl))
  | ((with_reducible refine' i_eq ?ha ?_); (case ha => exact rfl)) | ((with_reducible refine' i_ne ?ha ?_); (case ha => exact rfl))
  | (with_reducible refine i_dget ?_) | (with_reducible refine i_yes ?_) | ((with_reducible show ∃ z, V.str _ = V.str z ∧ _); (refine ⟨_, rfl, ?_⟩))
  | (with_reducible refine i_un ?_) | (with_reducible refine i_rU ?_)
  | ((with_reducible refine' i_rI ?hv ?_); (case hv => first | decide | (dsimp only; omega) | exact .inl ⟨by omega, by omega⟩ | exact .inr ⟨by omega, by omega⟩ | exact ⟨by decide, by decide⟩ | exact ⟨by decide, by decide, by decide⟩ | exact ⟨by omega, by omega⟩))
  | ((with_reducible show ∃ i, [V.int _] = [V.int i] ∧ _); (refine ⟨_, rfl, ?_⟩))
  | ((with_reducible show tyV _ "list" _ _ ∧ _); (refine' ⟨i_tyL ?ha, ?_⟩); (case ha => assumption)))

theorem i_parts2 {ty : TE} {σ : St} {H : Hp} {Q : VK} (q : ty σ H fun y H1 => ∃ z : Str, y = .str z ∧ Q (partV z) H1) : tParts2 ty σ H Q := q
noncomputable def spPairT : Sp := fun vs H Q _ => ∃ (D : Addr → Prop) (n : Nat) (v : V) (t : Tr), vs = [v] ∧ Is D H n v t ∧ Q (.bl (isPair t)) H
noncomputable def spNameT : Sp := fun vs H Q _ => ∃ (D : Addr → Prop) (n : Nat) (v : V) (t : Tr), vs = [v] ∧ Is D H n v t ∧ ∀ H', Same H H' → Q (.bl (nameG t)) H'
noncomputable def All2 (D : Addr → Prop) (H : Hp) (n : Nat) (xs : List V) (ts : List Tr) : Prop := xs.length = ts.length ∧ ∀ (j : Nat) x t, xs[j]? = some x → ts[j]? = some t → Is D H n x t
theorem All2.same {D : Addr → Prop} {H H' : Hp} {n : Nat} {xs : List V} {ts : List Tr} (k : KeepD D H H') (h : All2 D H n xs ts) : All2 D H' n xs ts := ⟨h.1, fun j x t e1 e2 => (h.2 j x t e1 e2).keep k⟩
theorem All2.get {D : Addr → Prop} {H : Hp} {n j : Nat} {xs : List V} {ts : List Tr} {x : V} (h : All2 D H n xs ts) (e : xs[j]? = some x) : ∃ t, ts[j]? = some t ∧ Is D H n x t := by
  have hj := (List.getElem?_eq_some_iff.mp e).1
  have hl := h.1
  have e2 : ts[j]? = some ts[j] := List.getElem?_eq_getElem (by omega)
  exact ⟨_, e2, h.2 j x _ e e2⟩
noncomputable def spUnlikeT : Sp := fun vs H Q _ => ∃ (D : Addr → Prop) (n : Nat) (l : Addr) (xs : List V) (ts : List Tr), vs = [.ref l] ∧ H l = some (.lst xs) ∧ xs.length ≤ 200 ∧ All2 D H n xs ts ∧ ∀ H', Same H H' → Q (.bl (ts.all nameG && decide (ts.map strOf).Nodup)) H'
theorem take_bl {α : Type} (f : α → Bool) {ts : List α} {m : Nat} {t : α} (e : ts[m]? = some t) : ((ts.take (m + 1)).map f).map V.bl = ((ts.take m).map f).map V.bl ++ [V.bl (f t)] := by
  rw [List.take_succ, e]; simp
theorem take_all {α : Type} (f : α → Bool) (ts : List α) {n : Nat} (h : n = ts.length) : ((ts.take n).map f).all id = ts.all f := by
  rw [h, List.take_length, List.all_map]; rfl
theorem ints_eq {n : Nat} {m : Nat} : decide (V.int (n : Int) = V.int (m : Int)) = decide (n = m) := by
  rw [Bool.eq_iff_iff, decide_eq_true_iff, decide_eq_true_iff]
  exact ⟨fun h => by injection h with h; omega, fun h => by rw [h]⟩
section
variable {P : Program} {w : World} {K : PySem.W.Frag} {mg : Str → Option Value} {base : Heap} {TT : Addr}
theorem ok_pairT {f : Addr} {fd : FuncData} (Fu : Fun K "is_pair" "is_pair" (top 9) f fd) (T : Txt K mg TT) : FnOk P w K mg base CX0 1 f fd ["thing"] spPairT := by
  have S := K2.sc_is_pair
  refine Fu.ok S (fun vs H Q E h => ?_) (fun cdv A outer s H vs Q E hr h => ?_)
  · obtain ⟨D, n, v, t, rfl, _⟩ := h
    rfl
  · obtain ⟨D, n, v, t, rfl, it, q⟩ := h
    refine ⟨_, (pss_one (ps_ret (pe_and (pe_callB call_isinst (by rfl) T.n_isinstance PyProof.Rows.boot_isinstance (pa_cons (pv 0) (pa_cons (pe_bltn (v := .ty "tuple") (by rfl) T.n_tuple PyProof.Rows.boot_tuple rfl) pa_nil))) (pe_one (pe_cmpR op_eq (pe_callB call_len_seq (by rfl) T.n_len PySem.boot_len (pa_cons (pv 0) pa_nil)) pe_int (nomark _)))))), ?_⟩
    dsimp only [cxOf, Cx.nox, Cx.wish]
    rw [show L2.start ["thing"] [v] = [some v] from rfl]
    repeat walk_at "vc"
    refine ⟨_, _, _, _, rfl, it.ty, kit_tup _, ?_⟩
    cases it with
    | @tup n a xs ts no ha hl hz hi =>
      refine ⟨_, rfl, iteT ?_⟩
      repeat walk_at "vc"
      refine ⟨a, xs, rfl, .inr (SqT.of ha), ?_⟩
      repeat walk_at "vc"
      rw [show decide (V.int ↑xs.length = V.int 2) = decide (xs.length = 2) from ints_eq (m := 2), hl]
      exact q
    | _ => exact ⟨_, rfl, iteF q⟩
theorem ok_nameT {f : Addr} {fd : FuncData} (Fu : Fun K "is_name" "is_name" (top 7) f fd) (T : Txt K mg TT) : FnOk P w K mg base CX0 1 f fd ["thing"] spNameT := by
  have S := K2.sc_is_name
  refine Fu.ok S (fun vs H Q E h => ?_) (fun cdv A outer s H vs Q E hr h => ?_)
  · obtain ⟨D, n, v, t, rfl, _⟩ := h
    rfl
  · obtain ⟨D, n, v, t, rfl, it, q⟩ := h
    obtain ⟨_, gLT⟩ := T.lETTERS
    obtain ⟨_, gML⟩ := T.mLETTERS
    refine ⟨_, (pss_cons (ps_if (PW.pt (pw_or (pt_not (pt_val (pe_callB call_isinst (by rfl) T.n_isinstance PyProof.Rows.boot_isinstance (pa_cons (pv 0) (pa_cons (pe_bltn (v := .ty "str") (by rfl) T.n_str PyProof.Rows.boot_str rfl) pa_nil))))) (pw_or1 (pt_not (pt_chain op_le op_le pe_int (pe_callB call_len_str (by rfl) T.n_len PySem.boot_len (pa_cons (pv 0) pa_nil)) (pe_glob (v := .int 8) (by rfl) gML ⟨_, rfl⟩)))))) (pss_one (ps_ret pe_bl)) pss_nil)
      (pss_one (ps_ret (pe_callB (call_all rfl) (by rfl) T.n_all PyProof.Rows.boot_all (pa_cons (pe_lc (tgs := ["sign"]) (cap := []) rfl ⟨rfl, rfl, rfl, rfl, rfl, rfl⟩ (pi_str (pv 0)) (fun _ _ _ _ => (pg_name (i := 0) (show List.Nodup [("sign" : Str)] by decide +kernel) rfl (by first | exact Or.inl rfl | exact Or.inr rfl))) (fun _ _ _ _ => pifs_nil) (fun _ _ _ _ => (pe_cmpR op_in_str (pv 0) (pe_glob (v := .str "abcdefghijklmnopqrstuvwxyz") (by rfl) gLT ⟨_, rfl⟩) rfl))) pa_nil))))), ?_⟩
    dsimp only [cxOf, Cx.nox, Cx.wish]
    rw [show L2.start ["thing"] [v] = [some v] from rfl]
    have big : 1000 < sizeLine := by decide
    repeat walk_at "vc"
    refine ⟨_, _, _, _, rfl, it.ty, kit_str _, ?_⟩
    cases it with
    | @str n z hz =>
      refine ⟨_, rfl, iteF ?_⟩
      repeat walk_at "vc"
      refine i_chain ?_
      repeat walk_at "vc"
      refine ⟨_, rfl, by omega, ?_⟩
      repeat walk_at "vc"
      by_cases c1 : 1 ≤ z.length
      · refine ifT (decide_eq_true (by omega)) ?_
        repeat walk_at "vc"
        by_cases c2 : z.length ≤ 8
        · refine ifF (by rw [decide_eq_true (by omega)]; rfl) ?_
          repeat walk_at "vc"
          refine i_comp ?_
          repeat walk_at "vc"
          intro L hL
          refine comp_itf (fun n H' ys => Same H H' ∧ H' L = some (.lst ys) ∧ ys = ((z.cps.toList.take n).map fun c => decide (c ∈ Lt.cps.toList)).map V.bl) ⟨fresh_same hL, upd_same, rfl⟩ (fun n H' ys p => p.2.1) (fun n H' ys hn p => ?_) (fun H' ys p => ?_)
          · obtain ⟨Sm, hd, rfl⟩ := p
            have zs : z.cps.size = z.length := rfl
            refine s_name ⟨trivial, i_yes (iteT ?_)⟩
            refine i_op (i_var rfl (i_c ⟨_, _, rfl, rfl, ?_⟩))
            refine NextC.mk hd hn (by rw [List.length_map, List.length_map, List.length_take]; omega) ⟨same_upd Sm hL, upd_same, ?_⟩
            have e : z.cps.getD n 0 = z.cps[n] := by simp [Array.getD, hn]
            rw [take_bl _ (t := z.cps[n]) (by simp [hn])]
            congr 3
            rw [← e]
            exact PySem.StrLaws.found_one Lt (z.cps.getD n 0)
          · obtain ⟨Sm, hd, rfl⟩ := p
            refine i_nil ⟨_, _, rfl, SqL.of hd, ?_⟩
            rw [take_all _ _ (by simp)]
            have e : nameG (.str z) = z.cps.toList.all fun c => decide (c ∈ Lt.cps.toList) := by
              show (decide (1 ≤ z.length) && (decide (z.length ≤ 8) && _)) = _
              rw [decide_eq_true c1, decide_eq_true c2]; rfl
            rw [← e]
            exact q H' Sm
        · refine ifT (by rw [decide_eq_false (by omega)]; rfl) ?_
          repeat walk_at "vc"
          have e : nameG (.str z) = false := by
            show (decide (1 ≤ z.length) && (decide (z.length ≤ 8) && _)) = _
            rw [decide_eq_false c2]; simp
          rw [← e]
          exact q H (Same.refl H)
      · refine ifF (decide_eq_false (by omega)) ?_
        repeat walk_at "vc"
        have e : nameG (.str z) = false := by
          show (decide (1 ≤ z.length) && (decide (z.length ≤ 8) && _)) = _
          rw [decide_eq_false c1]; simp
        first
          | (rw [← e]; exact q H (Same.refl H))
          | (refine iteT ?_; repeat walk_at "vc"
             rw [← e]; exact q H (Same.refl H))
    | _ =>
      refine ⟨_, rfl, iteT ?_⟩
      repeat walk_at "vc"
      exact q H (Same.refl H)
theorem ok_unlikeT {f : Addr} {fd : FuncData} (Fu : Fun K "are_unlike_names" "are_unlike_names" (top 10) f fd) (T : Txt K mg TT) (f_is_name : Fn P w K mg base "is_name" ["thing"] 1 spNameT) : FnOk P w K mg base CX0 2 f fd ["things"] spUnlikeT := by
  have S := K2.sc_are_unlike_names
  refine Fu.ok S (fun vs H Q E h => ?_) (fun cdv A outer s H vs Q E hr h => ?_)
  · obtain ⟨D, n, l, xs, ts, rfl, _⟩ := h
    rfl
  · obtain ⟨D, n, l, xs, ts, rfl, hl, sz, al, q⟩ := h
    refine ⟨_, (pss_one (ps_ret (pe_and (pe_callB (call_all rfl) (by rfl) T.n_all PyProof.Rows.boot_all (pa_cons (pe_lc (tgs := ["thing"]) (cap := []) rfl ⟨rfl, rfl, rfl, rfl, rfl, rfl⟩ (pi_list (pv 0)) (fun _ _ _ _ => (pg_name (i := 0) (show List.Nodup [("thing" : Str)] by decide +kernel) rfl (by first | exact Or.inl rfl | exact Or.inr rfl))) (fun _ _ _ _ => pifs_nil) (fun _ _ _ _ => (pe_fn f_is_name (hr.mono (by first | decide | omega)) (by rfl) (pa_cons (pv 0) pa_nil)))) pa_nil)) (pe_one (pe_cmpR op_eq (pe_lenset rfl (by rfl) T.n_len (by rfl) T.n_set (pa_cons (pv 0) pa_nil)) (pe_callB call_len_seq (by rfl) T.n_len PySem.boot_len (pa_cons (pv 0) pa_nil)) (nomark _)))))), ?_⟩
    dsimp only [cxOf, Cx.nox, Cx.wish]
    rw [show L2.start ["things"] [V.ref l] = [some (.ref l)] from rfl]
    have big : 1000 < sizeLine := by decide
    repeat walk_at "vc"
    refine i_comp ?_
    repeat walk_at "vc"
    refine ⟨l, rfl, ⟨_, SqL.of hl⟩, fun L hL => ?_⟩
    refine comp_list (xs := xs) (fun m H' ys => Same H H' ∧ H' L = some (.lst ys) ∧ ys = ((ts.take m).map nameG).map V.bl) ⟨fresh_same hL, upd_same, rfl⟩ (fun m H' ys p => ⟨p.2.1, SqL.of (p.1 _ _ hl)⟩) (fun m x H' ys e p => ?_) (fun H' ys p => ?_)
    · obtain ⟨Sm, hd, rfl⟩ := p
      have hn : m < xs.length := (List.getElem?_eq_some_iff.mp e).1
      obtain ⟨t, et, it⟩ := al.get e
      refine s_name ⟨trivial, i_yes (iteT ?_)⟩
      refine i_call (i_cons (i_var rfl (i_nil ⟨D, n, x, t, rfl, it.keep (.of Sm), fun H2 S2 => ?_⟩)))
      refine NextC.mk (S2 _ _ hd) hn (by rw [List.length_map, List.length_map, List.length_take]; omega) ⟨same_upd (Sm.trans S2) hL, upd_same, ?_⟩
      rw [take_bl nameG et]
    · obtain ⟨Sm, hd, rfl⟩ := p
      refine i_nil ⟨_, _, rfl, SqL.of hd, ?_⟩
      rw [take_all nameG ts al.1]
      have hl' := Sm _ _ hl
      cases c : ts.all nameG
      · have z := q H' Sm
        rw [c] at z
        exact ⟨_, rfl, iteF z⟩
      · have ex := names_str c al.1 al.2
        have lx := al.1
        refine ⟨_, rfl, iteT ?_⟩
        repeat walk_at "vc"
        refine i_lens ?_
        repeat walk_at "vc"
        refine ⟨l, ts.map strOf, rfl, by rw [← ex]; exact SqL.of hl', by rw [List.length_map]; omega, ?_⟩
        repeat walk_at "vc"
        have e2 : decide (V.int (uniq (ts.map strOf)) = V.int (xs.length : Nat)) = decide (ts.map strOf).Nodup := by
          rw [ints_eq, Bool.eq_iff_iff, decide_eq_true_iff, decide_eq_true_iff, ← uniq_all, List.length_map, lx]
        rw [e2]
        have z := q H' Sm
        rw [c] at z
        exact z
end
set_option Elab.async false
set_option linter.all false
set_option maxRecDepth 100000
set_option maxHeartbeats 4000000


noncomputable def spGatesT : Sp := fun vs H Q _ => ∃ (D : Addr → Prop) (n : Nat) (a lg : Addr) (v0 : V) (ys : List V) (gs : List Tr), vs = [.ref a] ∧ H a = some (.tup [v0, .ref lg]) ∧ H lg = some (.lst ys) ∧ ys.length ≤ 100 ∧ All2 D H n ys gs ∧ gs.all isPair = true ∧
  ∀ l zs H', Same H H' → H l = none → H' l = some (.lst zs) → All2 D H' n zs (gs.map nmOf) → Q (.ref l) H'
noncomputable def spWiresT : Sp := fun vs H Q _ => ∃ (D : Addr → Prop) (n : Nat) (a li lg : Addr) (xs ys : List V) (is gs : List Tr), vs = [.ref a] ∧ H a = some (.tup [.ref li, .ref lg]) ∧ H li = some (.lst xs) ∧ xs.length ≤ 100 ∧ All2 D H n xs is ∧ H lg = some (.lst ys) ∧ ys.length ≤ 100 ∧ All2 D H n ys gs ∧ gs.all isPair = true ∧
  ∀ l zs H', Same H H' → H l = none → H' l = some (.lst zs) → All2 D H' n zs (is ++ gs.map nmOf) → Q (.ref l) H'
theorem pair_at {D : Addr → Prop} {H : Hp} {n : Nat} {x : V} {g : Tr} (h : Is D H n x g) (hp : isPair g = true) : ∃ b u v m, x = .ref b ∧ H b = some (.tup [u, v]) ∧ n = m + 1 ∧ Is D H m u (nmOf g) ∧ Is D H m v (rlOf g) := by
  obtain ⟨s, t, rfl⟩ := pair_open hp
  cases h with
  | @tup m a xs ts no ha hl hz hi =>
    match xs, hl with
    | [u, v], _ => exact ⟨a, u, v, m, rfl, ha, rfl, hi 0 u s rfl rfl, hi 1 v t rfl rfl⟩
theorem all_at {α : Type} {p : α → Bool} {ts : List α} {j : Nat} {t : α} (h : ts.all p = true) (e : ts[j]? = some t) : p t = true := List.all_eq_true.mp h t (List.mem_of_getElem? e)
theorem All2.snoc {D : Addr → Prop} {H H' : Hp} {n m : Nat} {xs : List V} {us : List Tr} {x : V} {t : Tr} (h : All2 D H n xs (us.take m)) (k : KeepD D H H') (e : us[m]? = some t) (i : Is D H' n x t) : All2 D H' n (xs ++ [x]) (us.take (m + 1)) := by
  obtain ⟨h1, h2⟩ := h
  have hm := (List.getElem?_eq_some_iff.mp e).1
  rw [List.length_take] at h1
  rw [List.take_succ, e]
  refine ⟨by rw [List.length_append, List.length_append, List.length_take]; simp; omega, fun j y u e1 e2 => ?_⟩
  by_cases c : j < xs.length
  · rw [List.getElem?_append_left c] at e1
    rw [List.getElem?_append_left (by rw [List.length_take]; omega)] at e2
    exact (h2 j y u e1 e2).keep k
  · have lj : j < (xs ++ [x]).length := (List.getElem?_eq_some_iff.mp e1).1
    rw [List.length_append, List.length_singleton] at lj
    have ej : j = xs.length := by omega
    subst ej
    rw [List.getElem?_append_right (Nat.le_refl _), Nat.sub_self] at e1
    rw [List.getElem?_append_right (by rw [List.length_take]; omega)] at e2
    rw [show xs.length - (us.take m).length = 0 by rw [List.length_take]; omega] at e2
    cases e1
    cases e2
    exact i
theorem All2.nil {D : Addr → Prop} {H : Hp} {n : Nat} : All2 D H n [] [] := ⟨rfl, fun j x t e _ => by simp at e⟩
theorem All2.app {D : Addr → Prop} {H : Hp} {n : Nat} {xs ys : List V} {ts us : List Tr} (h : All2 D H n xs ts) (g : All2 D H n ys us) : All2 D H n (xs ++ ys) (ts ++ us) := by
  obtain ⟨h1, h2⟩ := h
  obtain ⟨g1, g2⟩ := g
  refine ⟨by rw [List.length_append, List.length_append]; omega, fun j x t e1 e2 => ?_⟩
  by_cases c : j < xs.length
  · rw [List.getElem?_append_left c] at e1
    rw [List.getElem?_append_left (by omega)] at e2
    exact h2 j x t e1 e2
  · rw [List.getElem?_append_right (by omega)] at e1 e2
    rw [h1] at e1
    exact g2 _ x t e1 e2
section
variable {P : Program} {w : World} {K : PySem.W.Frag} {mg : Str → Option Value} {base : Heap} {TT : Addr}
theorem ok_gatesT {f : Addr} {fd : FuncData} (Fu : Fun K "gates_of" "gates_of" (top 12) f fd) (T : Txt K mg TT) : FnOk P w K mg base CX0 1 f fd ["net"] spGatesT := by
  have S := K2.sc_gates_of
  refine Fu.ok S (fun vs H Q E h => ?_) (fun cdv A outer s H vs Q E hr h => ?_)
  · obtain ⟨D, n, a, lg, v0, ys, gs, rfl, _⟩ := h
    rfl
  · obtain ⟨D, n, a, lg, v0, ys, gs, rfl, ha, hg, sz, al, hp, q⟩ := h
    have big : 1000 < sizeLine := by decide
    refine ⟨_, (pss_one (ps_ret (pe_lc (tgs := ["gate"]) (cap := []) rfl ⟨rfl, rfl, rfl, rfl, rfl, rfl⟩ (pi_list (pe_ix ix_tup (pv 0) pe_int (fun _ _ => rfl))) (fun _ _ _ _ => (pg_name (i := 0) (show List.Nodup [("gate" : Str)] by decide +kernel) rfl (by first | exact Or.inl rfl | exact Or.inr rfl))) (fun _ _ _ _ => pifs_nil) (fun _ _ _ _ => (pe_ix (ix_tupK (K := K) rfl) (pv 0) pe_int (fun _ _ => rfl)))))), ?_⟩
    dsimp only [cxOf, Cx.nox, Cx.wish]
    rw [show L2.start ["net"] [V.ref a] = [some (.ref a)] from rfl]
    repeat walk_at "vc"
    refine i_comp (s_list ?_)
    repeat walk_at "vc"
    refine ⟨lg, rfl, ⟨_, SqL.of hg⟩, fun L hL => ?_⟩
    refine comp_list (xs := ys) (fun m H' zs => Same H H' ∧ H' L = some (.lst zs) ∧ zs.length = m ∧ All2 D H n zs ((gs.map nmOf).take m)) ⟨fresh_same hL, upd_same, rfl, All2.nil⟩ (fun m H' ys p => ⟨p.2.1, SqL.of (p.1 _ _ hg)⟩) (fun m x H' zs e p => ?_) (fun H' zs p => ?_)
    · obtain ⟨Sm, hd, zl, az⟩ := p
      have hm : m < ys.length := (List.getElem?_eq_some_iff.mp e).1
      obtain ⟨g, eg, ig⟩ := al.get e
      obtain ⟨b, u, v, k, rfl, hb, rfl, i1, _⟩ := pair_at ig (all_at hp eg)
      have hb' := Sm _ _ hb
      refine s_name ⟨trivial, i_yes (iteT ?_)⟩
      repeat walk_at "vc"
      refine NextC.mk hd hm (by omega) ⟨same_upd Sm hL, upd_same, by simp [zl], ?_⟩
      exact az.snoc (fun _ _ e _ => e) (by rw [List.getElem?_map, eg]; rfl) (i1.up (by omega))
    · obtain ⟨Sm, hd, zl, az⟩ := p
      have lg2 := al.1
      rw [List.take_of_length_le (by rw [List.length_map]; omega)] at az
      exact q L zs H' Sm hL hd (az.same (.of Sm))
theorem ok_wiresT {f : Addr} {fd : FuncData} (Fu : Fun K "wires_of" "wires_of" (top 13) f fd) (T : Txt K mg TT) (f_gates_of : Fn P w K mg base "gates_of" ["net"] 1 spGatesT) : FnOk P w K mg base CX0 2 f fd ["net"] spWiresT := by
  have S := K2.sc_wires_of
  refine Fu.ok S (fun vs H Q E h => ?_) (fun cdv A outer s H vs Q E hr h => ?_)
  · obtain ⟨D, n, a, li, lg, xs, ys, is, gs, rfl, _⟩ := h
    rfl
  · obtain ⟨D, n, a, li, lg, xs, ys, is, gs, rfl, ha, hi, si, ai, hg, sg, ag, hp, q⟩ := h
    have big : 1000 < sizeLine := by decide
    refine ⟨_, (pss_one (ps_ret (pe_op op_cat (pe_callTy call_list_of (by rfl) T.n_list PyProof.Rows.boot_list (pa_cons (pe_ix ix_tup (pv 0) pe_int (fun _ _ => rfl)) pa_nil)) (pe_fn f_gates_of (hr.mono (by first | decide | omega)) (by rfl) (pa_cons (pv 0) pa_nil))))), ?_⟩
    dsimp only [cxOf, Cx.nox, Cx.wish]
    rw [show L2.start ["net"] [V.ref a] = [some (.ref a)] from rfl]
    repeat walk_at "vc"
    intro l hl
    have s1 := fresh_same (o := .lst xs) hl
    have hl1 : upd H l (HO.lst xs) l = some (.lst xs) := upd_same
    generalize upd H l (HO.lst xs) = H1 at *
    repeat walk_at "vc"
    refine ⟨D, n, a, lg, .ref li, ys, gs, rfl, s1 _ _ ha, s1 _ _ hg, sg, ag.same (.of s1), hp, fun L zs H2 s2 hL h2 az => ?_⟩
    have hl2 := s2 _ _ hl1
    have lz := az.1
    have lgs := ag.1
    rw [List.length_map] at lz
    refine i_cat hl2 h2 (by omega) fun p hp' => ?_
    have hs := s1.trans (s2.trans (fresh_same (o := HO.lst (xs ++ zs)) hp'))
    refine q p _ _ hs (Same.free (s1.trans s2) hp') upd_same ?_
    exact ((ai.same (.of (s1.trans s2))).app az).same (.of (fresh_same hp'))
theorem partV_eq (z : Str) (m : Nat) : decide (partV z = V.int (m : Int)) = decide (partN z = some m) := by
  rw [Bool.eq_iff_iff, decide_eq_true_iff, decide_eq_true_iff]
  unfold partV partN
  split
  · exact ⟨fun h => by injection h with h; congr 1; omega, fun h => by injection h with h; rw [← h]; rfl⟩
  split
  · exact ⟨fun h => by injection h with h; congr 1; omega, fun h => by injection h with h; rw [← h]; rfl⟩
  split
  · exact ⟨fun h => by injection h with h; congr 1; omega, fun h => by injection h with h; rw [← h]; rfl⟩
  split
  · exact ⟨fun h => by injection h with h; congr 1; omega, fun h => by injection h with h; rw [← h]; rfl⟩
  · exact ⟨fun h => (by cases h), fun h => (by cases h)⟩
theorem partV_scal (z : Str) (m : Int) : scal (partV z) (V.int m) = true := by unfold partV; repeat' split
                                                                               all_goals rfl
noncomputable def spRuleT (k : Nat) : Sp := fun vs H Q _ => ∃ (D : Addr → Prop) (n : Nat) (v : V) (t : Tr) (l : Addr) (ws : List Str) (d : Nat), vs = [v, .ref l, .int d] ∧ d + 1 ≤ k ∧ d ≤ 10 ∧ Is D H n v t ∧ H l = some (.lst (ws.map V.str)) ∧ ws.length ≤ 200 ∧ ∀ H', Same H H' → Q (.bl (ruleG ws d t)) H'
theorem ruleG_tup (ws : List Str) (d : Nat) (z : Str) (ts : List Tr) : ruleG ws (d + 1) (.tup (.str z :: ts)) = if partN z = some (ts.length + 1) then (if z = "wire" then ts.all (memT ws) else ts.all (ruleG ws d)) else false := by rw [ruleG]
theorem ok_ruleT {f : Addr} {fd : FuncData} (Fu : Fun K "is_rule" "is_rule" (top 8) f fd) (T : Txt K mg TT) (hm : mg "is_rule" = some (.ref f)) (hk : PySem.W.keepIn K (.ref f) = true) (hb : Binds K fd ["thing", "wires", "depth"] []) : ∀ d, FnOk P w K mg base CX0 d f fd ["thing", "wires", "depth"] (spRuleT d)
  | 0 => fnok_false fun vs H Q E ⟨D, n, v, t, l, ws, d, _, h, _⟩ => by omega
  | k + 1 => by
    have S := K2.sc_is_rule
    have f_is_rule : Fn P w K mg base "is_rule" ["thing", "wires", "depth"] k (spRuleT k) := ⟨f, fd, ok_ruleT Fu T hm hk hb k, hm, hk, hb⟩
    refine Fu.ok S (fun vs H Q E h => ?_) (fun cdv A outer s H vs Q E hr h => ?_)
    · obtain ⟨D, n, v, t, l, ws, d, rfl, _⟩ := h
      rfl
    · obtain ⟨D, n, v, t, l, ws, d, rfl, hd, hd10, it, hl, hw, q⟩ := h
      have hu := hu_of hr
      have big : 1000 < sizeLine := by decide
      refine ⟨_, (pss_cons (ps_if (PW.pt (pw_or (pt_cmpR op_lt (pv 2) pe_int (nomark _)) (pw_or (pt_not (pt_val (pe_callB call_isinst (by rfl) T.n_isinstance PyProof.Rows.boot_isinstance (pa_cons (pv 0) (pa_cons (pe_bltn (v := .ty "tuple") (by rfl) T.n_tuple PyProof.Rows.boot_tuple rfl) pa_nil))))) (pw_or1 (pt_cmpR op_eq (pe_callB call_len_seq (by rfl) T.n_len PySem.boot_len (pa_cons (pv 0) pa_nil)) pe_int (nomark _)))))) (pss_one (ps_ret pe_bl)) pss_nil)
      (pss_cons (ps_set (i := 3) S.nd rfl (by first | exact Or.inl rfl | exact Or.inr rfl) (pe_ix ix_tup (pv 0) pe_int (fun _ _ => rfl)))
      (pss_cons (ps_if (PW.pt (pw_or (pt_not (pt_val (pe_callB call_isinst (by rfl) T.n_isinstance PyProof.Rows.boot_isinstance (pa_cons (pv 3) (pa_cons (pe_bltn (v := .ty "str") (by rfl) T.n_str PyProof.Rows.boot_str rfl) pa_nil))))) (pw_or1 (pt_cmpR op_ne (pe_parts2 T.tab (pe_glob (v := .ref TT) (by rfl) T.pARTS rfl) (pv 3) ⟨rfl, rfl, rfl, rfl⟩) (pe_callB call_len_seq (by rfl) T.n_len PySem.boot_len (pa_cons (pv 0) pa_nil)) (nomark _))))) (pss_one (ps_ret pe_bl)) pss_nil)
      (pss_cons (ps_if (pt_cmpR op_eq (pv 3) pe_str (nomark _)) (pss_one (ps_ret (pe_and (pe_callB call_isinst (by rfl) T.n_isinstance PyProof.Rows.boot_isinstance (pa_cons (pe_ix ix_tup (pv 0) pe_int (fun _ _ => rfl)) (pa_cons (pe_bltn (v := .ty "str") (by rfl) T.n_str PyProof.Rows.boot_str rfl) pa_nil))) (pe_one (pe_cmpR op_in_seq (pe_ix ix_tup (pv 0) pe_int (fun _ _ => rfl)) (pv 1) rfl))))) pss_nil)
      (pss_one (ps_ret (pe_callB (call_all rfl) (by rfl) T.n_all PyProof.Rows.boot_all (pa_cons (pe_lc (tgs := ["part"]) (cap := [("wires", 1), ("depth", 2)]) rfl ⟨rfl, rfl, rfl, rfl, rfl, rfl⟩ (pi_tup (pe_slice sl_tup (pv 0) (po_some pe_int) po_none)) (fun _ _ _ _ => (pg_name (i := 0) (show List.Nodup [("part" : Str), ("wires" : Str), ("depth" : Str)] by decide +kernel) rfl (by first | exact Or.inl rfl | exact Or.inr rfl))) (fun _ _ _ _ => pifs_nil) (fun _ _ _ _ => (pe_fn f_is_rule (hr.mono (by first | decide | omega)) (by rfl) (pa_cons (pv 0) (pa_cons (pv 1) (pa_cons (pe_op op_sub (pv 2) pe_int) pa_nil)))))) pa_nil)))))))), ?_⟩
      try dsimp only [cxOf, Cx.nox, Cx.wish]
      rw [show L2.start ["thing", "wires", "depth", "kind"] [v, V.ref l, V.int d] = [some v, some (.ref l), some (.int d), none] from rfl]
      have no : ruleG ws d t = false → Q (.bl false) H := fun c => by rw [← c]; exact q H (Same.refl H)
      repeat walk_at "vc"
      cases d with
      | zero =>
        refine ifT (decide_eq_true (by omega)) ?_
        repeat walk_at "vc"
        exact no (by rw [ruleG])
      | succ d =>
        refine ifF (decide_eq_false (by omega)) ?_
        repeat walk_at "vc"
        refine ⟨_, _, _, _, rfl, it.ty, kit_tup _, ?_⟩
        cases it with
        | @tup n b xs ts nown hb hle hz hi =>
          refine ⟨_, rfl, iteF ?_⟩
          repeat walk_at "vc"
          refine ⟨b, _, rfl, .inr (SqT.of hb), ?_⟩
          repeat walk_at "vc"
          match xs, ts, hle with
          | [], [], _ =>
            refine ifT (by decide) ?_
            repeat walk_at "vc"
            exact no (by rw [ruleG]; exact fun _ _ h => by cases h)
          | x :: as, t0 :: ts, hle =>
            have hla : as.length = ts.length := by simpa using hle
            have hz' : as.length + 1 ≤ 100 := by simpa using hz
            refine ifF (decide_eq_false fun h => by injection h with h; simp at h; omega) ?_
            repeat walk_at "vc"
            refine i_ixT hb (atI_nat (j := 0) rfl) ?_
            repeat walk_at "vc"
            have i0 := hi 0 x t0 rfl rfl
            refine ⟨_, _, _, _, rfl, i0.ty, kit_str _, ?_⟩
            cases i0 with
            | @str n z hz =>
              refine ⟨_, rfl, iteF ?_⟩
              repeat walk_at "vc"
              refine i_parts2 ?_
              repeat walk_at "vc"
              refine ⟨b, _, rfl, .inr (SqT.of hb), ?_⟩
              refine i_ne (partV_scal z _) ?_
              rw [partV_eq]
              rw [ruleG_tup] at q no
              rw [show (V.str z :: as).length = ts.length + 1 by simp [hla]]
              by_cases cp : partN z = some (ts.length + 1)
              · rw [if_pos cp] at q no
                refine ⟨_, rfl, ifF (by rw [decide_eq_true cp]; rfl) ?_⟩
                repeat walk_at "vc"
                by_cases cw : z = "wire"
                · rw [if_pos cw] at q no
                  refine ifT (by rw [cw]; decide +kernel) ?_
                  have l1 : ts.length = 1 := by
                    unfold partN at cp
                    rw [if_pos cw] at cp
                    injection cp with cp
                    omega
                  obtain ⟨t1, rfl⟩ := List.length_eq_one_iff.mp l1
                  obtain ⟨x1, rfl⟩ := List.length_eq_one_iff.mp (hla.trans l1)
                  have i1 := hi 1 x1 t1 rfl rfl
                  repeat walk_at "vc"
                  refine ⟨_, _, _, _, rfl, i1.ty, kit_str _, ?_⟩
                  have q1 := q H (Same.refl H)
                  rw [show [t1].all (memT ws) = memT ws t1 by simp] at q1
                  cases i1 with
                  | @str n y hy =>
                    refine ⟨_, rfl, iteT ?_⟩
                    repeat walk_at "vc"
                    exact ⟨l, _, rfl, .inl (SqL.of hl), rfl, flat_strs ws, q1⟩
                  | _ => exact ⟨_, rfl, iteF q1⟩
                · rw [if_neg cw] at q no
                  refine ifF (decide_eq_false fun h => by injection h with h; exact cw h) ?_
                  have ap : 1 ≤ as.length := by
                    unfold partN at cp
                    rw [if_neg cw] at cp
                    rw [hla]
                    repeat' split at cp
                    all_goals first | (injection cp with cp; omega) | cases cp
                  repeat walk_at "vc"
                  refine i_comp (s_tup ?_)
                  repeat walk_at "vc"
                  refine ⟨b, _, rfl, SqT.of hb, ?_, fun c hc => ?_⟩
                  · intro h
                    have h1 := h.1
                    rw [List.length_cons, six_one] at h1
                    cases h1
                  rw [cut_one]
                  have S1 := fresh_same (o := .tup as) hc
                  have hcT : upd H c (.tup as) c = some (.tup as) := upd_same
                  generalize upd H c (.tup as) = H1 at S1 hcT
                  refine ⟨c, rfl, ⟨_, SqT.of hcT⟩, fun L hL => ?_⟩
                  refine comp_tup (xs := as) (fun m H' ys => Same H1 H' ∧ H' L = some (.lst ys) ∧ ys = ((ts.take m).map (ruleG ws d)).map V.bl) ⟨fresh_same hL, upd_same, rfl⟩ (fun m H' ys p => ⟨p.2.1, SqT.of (p.1 _ _ hcT)⟩) (fun m x H' ys e p => ?_) (fun H' ys p => ?_)
                  · obtain ⟨Sm, hd', rfl⟩ := p
                    have hm' : m < as.length := (List.getElem?_eq_some_iff.mp e).1
                    have et : ts[m]? = some ts[m] := List.getElem?_eq_getElem (by omega)
                    have im := hi (m + 1) x ts[m] (by simpa using e) (by simpa using et)
                    refine s_name ⟨by refine ⟨?_, ?_, ?_⟩ <;> first | rfl | trivial, i_yes (iteT ?_)⟩
                    repeat walk_at "vc"
                    refine ⟨D, n, x, ts[m], l, ws, d, by rw [show ((d + 1 : Nat) : Int) - 1 = d by omega], by omega, by omega, im.keep (.of (S1.trans Sm)), (S1.trans Sm) _ _ hl, hw, fun H2 S2 => ?_⟩
                    refine NextC.mk (S2 _ _ hd') hm' (by rw [List.length_map, List.length_map, List.length_take]; omega) ⟨same_upd (Sm.trans S2) hL, upd_same, ?_⟩
                    rw [take_bl _ et]
                  · obtain ⟨Sm, hd', rfl⟩ := p
                    refine i_nil ⟨_, _, rfl, SqL.of hd', ?_⟩
                    rw [take_all _ _ hla]
                    exact q H' (S1.trans Sm)
              · rw [if_neg cp] at q
                refine ⟨_, rfl, ifT (by rw [decide_eq_false cp]; rfl) ?_⟩
                repeat walk_at "vc"
                exact q H (Same.refl H)
            | _ =>
              refine ⟨_, rfl, iteT ?_⟩
              repeat walk_at "vc"
              exact no (by rw [ruleG]; exact fun _ _ h => by cases h)
        | _ =>
          refine ⟨_, rfl, iteT ?_⟩
          repeat walk_at "vc"
          exact no (by rw [ruleG]; exact fun _ _ h => by cases h)
end
set_option Elab.async false
set_option linter.all false
set_option maxRecDepth 100000
set_option maxHeartbeats 4000000


noncomputable def spIsNetT : Sp := fun vs H Q _ => ∃ (D : Addr → Prop) (n : Nat) (v : V) (t : Tr), vs = [v] ∧ Is D H n v t ∧ ∀ H', Same H H' → Q (.bl (good t)) H'
theorem good_nopair {t : Tr} (h : isPair t = false) : good t = false := by
  cases t with
  | tup ts =>
    unfold good
    split
    · rename_i is gs e
      injection e with e
      subst e
      exact absurd h (by simp [isPair])
    · rfl
  | _ => rfl
section
variable {P : Program} {w : World} {K : PySem.W.Frag} {mg : Str → Option Value} {base : Heap} {TT : Addr}
theorem ok_isnetT {f : Addr} {fd : FuncData} (Fu : Fun K "is_net" "is_net" (top 11) f fd) (T : Txt K mg TT) (f_is_pair : Fn P w K mg base "is_pair" ["thing"] 1 spPairT) (f_wires_of : Fn P w K mg base "wires_of" ["net"] 2 spWiresT)
    (f_are_unlike_names : Fn P w K mg base "are_unlike_names" ["things"] 2 spUnlikeT) (f_is_rule : Fn P w K mg base "is_rule" ["thing", "wires", "depth"] 11 (spRuleT 11)) : FnOk P w K mg base CX0 12 f fd ["thing"] spIsNetT := by
  have S := K2.sc_is_net
  refine Fu.ok S (fun vs H Q E h => ?_) (fun cdv A outer s H vs Q E hr h => ?_)
  · obtain ⟨D, n, v, t, rfl, _⟩ := h
    rfl
  · obtain ⟨D, n, v, t, rfl, it, q⟩ := h
    obtain ⟨_, gMR⟩ := T.mRULES
    obtain ⟨_, gMI⟩ := T.mINPUTS
    obtain ⟨_, gMG⟩ := T.mGATES
    have hu := hu_of hr
    have big : 1000 < sizeLine := by decide
    refine ⟨_, (pss_cons (ps_if (PW.pt (pw_or (pt_not (pt_val (pe_fn f_is_pair (hr.mono (by first | decide | omega)) (by rfl) (pa_cons (pv 0) pa_nil)))) (pw_or (pt_not (pt_val (pe_callB call_isinst (by rfl) T.n_isinstance PyProof.Rows.boot_isinstance (pa_cons (pe_ix ix_tup (pv 0) pe_int (fun _ _ => rfl)) (pa_cons (pe_bltn (v := .ty "list") (by rfl) T.n_list PyProof.Rows.boot_list rfl) pa_nil))))) (pw_or1 (pt_not (pt_val (pe_callB call_isinst (by rfl) T.n_isinstance PyProof.Rows.boot_isinstance (pa_cons (pe_ix ix_tup (pv 0) pe_int (fun _ _ => rfl)) (pa_cons (pe_bltn (v := .ty "list") (by rfl) T.n_list PyProof.Rows.boot_list rfl) pa_nil))))))))) (pss_one (ps_ret pe_bl)) pss_nil)
      (pss_cons (ps_set (i := 1) S.nd rfl (by first | exact Or.inl rfl | exact Or.inr rfl) (pe_ix ix_tup (pv 0) pe_int (fun _ _ => rfl)))
      (pss_cons (ps_set (i := 2) S.nd rfl (by first | exact Or.inl rfl | exact Or.inr rfl) (pe_ix ix_tup (pv 0) pe_int (fun _ _ => rfl)))
      (pss_cons (ps_if (PW.pt (pw_or (pt_cmpR op_gt (pe_callB call_len_seq (by rfl) T.n_len PySem.boot_len (pa_cons (pv 1) pa_nil)) (pe_glob (v := .int 4) (by rfl) gMI ⟨_, rfl⟩) (nomark _)) (pw_or1 (pt_not (pt_chain op_le op_le pe_int (pe_callB call_len_seq (by rfl) T.n_len PySem.boot_len (pa_cons (pv 2) pa_nil)) (pe_glob (v := .int 7) (by rfl) gMG ⟨_, rfl⟩)))))) (pss_one (ps_ret pe_bl)) pss_nil)
      (pss_cons (ps_if (pt_not (pt_val (pe_callB (call_all rfl) (by rfl) T.n_all PyProof.Rows.boot_all (pa_cons (pe_lc (tgs := ["gate"]) (cap := []) rfl ⟨rfl, rfl, rfl, rfl, rfl, rfl⟩ (pi_list (pv 2)) (fun _ _ _ _ => (pg_name (i := 0) (show List.Nodup [("gate" : Str)] by decide +kernel) rfl (by first | exact Or.inl rfl | exact Or.inr rfl))) (fun _ _ _ _ => pifs_nil) (fun _ _ _ _ => (pe_fn f_is_pair (hr.mono (by first | decide | omega)) (by rfl) (pa_cons (pv 0) pa_nil)))) pa_nil)))) (pss_one (ps_ret pe_bl)) pss_nil)
      (pss_cons (ps_set (i := 3) S.nd rfl (by first | exact Or.inl rfl | exact Or.inr rfl) (pe_fn f_wires_of (hr.mono (by first | decide | omega)) (by rfl) (pa_cons (pv 0) pa_nil)))
      (pss_cons (ps_if (pt_not (pt_val (pe_fn f_are_unlike_names (hr.mono (by first | decide | omega)) (by rfl) (pa_cons (pv 3) pa_nil)))) (pss_one (ps_ret pe_bl)) pss_nil)
      (pss_one (ps_ret (pe_callB (call_all rfl) (by rfl) T.n_all PyProof.Rows.boot_all (pa_cons (pe_lc (tgs := ["gate"]) (cap := [("wires", 3)]) rfl ⟨rfl, rfl, rfl, rfl, rfl, rfl⟩ (pi_list (pv 2)) (fun _ _ _ _ => (pg_name (i := 0) (show List.Nodup [("gate" : Str), ("wires" : Str)] by decide +kernel) rfl (by first | exact Or.inl rfl | exact Or.inr rfl))) (fun _ _ _ _ => pifs_nil) (fun _ _ _ _ => (pe_fn f_is_rule (hr.mono (by first | decide | omega)) (by rfl) (pa_cons (pe_ix (ix_tupK (K := K) rfl) (pv 0) pe_int (fun _ _ => rfl)) (pa_cons (pv 1) (pa_cons (pe_glob (v := .int 10) (by rfl) gMR ⟨_, rfl⟩) pa_nil)))))) pa_nil))))))))))), ?_⟩
    try dsimp only [cxOf, Cx.nox, Cx.wish]
    rw [show L2.start ["thing", "inputs", "gates", "wires"] [v] = [some v, none, none, none] from rfl]
    have no : good t = false → Q (.bl false) H := fun c => by rw [← c]; exact q H (Same.refl H)
    repeat walk_at "vc"
    refine ⟨D, n, v, t, rfl, it, ?_⟩
    cases c : isPair t
    · refine ⟨_, rfl, iteT ?_⟩
      repeat walk_at "vc"
      exact no (good_nopair c)
    · obtain ⟨a, u0, u1, m, rfl, ha, rfl, i0, i1⟩ := pair_at it c
      obtain ⟨t0, t1, rfl⟩ := pair_open c
      refine ⟨_, rfl, iteF ?_⟩
      repeat walk_at "vc"
      refine ⟨_, _, _, _, rfl, i0.ty, kit_lst _, ?_⟩
      change Is D H m u0 t0 at i0
      change Is D H m u1 t1 at i1
      cases i0 with
      | @lst m li xs is nown hi hil hiz hii =>
        refine ⟨_, rfl, iteF ?_⟩
        repeat walk_at "vc"
        refine ⟨_, _, _, _, rfl, i1.ty, kit_lst _, ?_⟩
        cases i1 with
        | @lst m lg ys gs nown2 hg hgl hgz hgi =>
          have ai : All2 D H m xs is := ⟨hil, hii⟩
          have ag : All2 D H m ys gs := ⟨hgl, hgi⟩
          refine ⟨_, rfl, iteF ?_⟩
          repeat walk_at "vc"
          have q : ∀ H', Same H H' → Q (.bl (decide (is.length ≤ 4) && (decide (1 ≤ gs.length) && (decide (gs.length ≤ 7) && (gs.all isPair && ((is ++ gs.map nmOf).all nameG && (decide ((is ++ gs.map nmOf).map strOf).Nodup && gs.all fun g => ruleG ((is ++ gs.map nmOf).map strOf) 10 (rlOf g)))))))) H' := q
          clear no it
          by_cases c1 : is.length ≤ 4
          · rw [decide_eq_true c1, Bool.true_and] at q
            refine ifF (decide_eq_false (by omega)) ?_
            repeat walk_at "vc"
            refine i_chain ?_
            repeat walk_at "vc"
            by_cases c2 : 1 ≤ gs.length
            · rw [decide_eq_true c2, Bool.true_and] at q
              refine ifT (decide_eq_true (by omega)) ?_
              repeat walk_at "vc"
              by_cases c3 : gs.length ≤ 7
              · rw [decide_eq_true c3, Bool.true_and] at q
                refine ifF (by rw [decide_eq_true (show (ys.length : Int) ≤ 7 by omega)]; rfl) ?_
                repeat walk_at "vc"
                refine i_comp (s_list (i_var rfl ⟨lg, rfl, ⟨_, SqL.of hg⟩, fun L hL => ?_⟩))
                refine comp_list (xs := ys) (fun m H' zs => Same H H' ∧ H' L = some (.lst zs) ∧ zs = ((gs.take m).map isPair).map V.bl) ⟨fresh_same hL, upd_same, rfl⟩ (fun m H' ys p => ⟨p.2.1, SqL.of (p.1 _ _ hg)⟩) (fun k x H' zs e p => ?_) (fun H' zs p => ?_)
                · obtain ⟨Sm, hd, rfl⟩ := p
                  have hn : k < ys.length := (List.getElem?_eq_some_iff.mp e).1
                  obtain ⟨g, eg, ig⟩ := ag.get e
                  refine s_name ⟨trivial, i_yes (iteT ?_)⟩
                  refine i_call (i_cons (i_var rfl (i_nil ⟨D, m, x, g, rfl, ig.keep (.of Sm), ?_⟩)))
                  exact NextC.mk hd hn (by rw [List.length_map, List.length_map, List.length_take]; omega) ⟨same_upd Sm hL, upd_same, by rw [take_bl _ eg]⟩
                · obtain ⟨Sm, hd, rfl⟩ := p
                  refine i_nil ⟨_, _, rfl, SqL.of hd, ?_⟩
                  rw [take_all _ _ hgl]
                  cases c4 : gs.all isPair
                  · rw [c4, Bool.false_and] at q
                    refine ⟨_, rfl, iteT ?_⟩
                    repeat walk_at "vc"
                    exact q H' Sm
                  · rw [c4, Bool.true_and] at q
                    refine ⟨_, rfl, iteF ?_⟩
                    repeat walk_at "vc"
                    refine ⟨D, m, a, li, lg, xs, ys, is, gs, rfl, Sm _ _ ha, Sm _ _ hi, hiz, ai.same (.of Sm), Sm _ _ hg, hgz, ag.same (.of Sm), c4, fun lw zs H2 S2 nw hw az => ?_⟩
                    repeat walk_at "vc"
                    have lz := az.1
                    rw [List.length_append, List.length_map] at lz
                    refine ⟨D, m, lw, zs, _, rfl, hw, by omega, az, fun H3 S3 => ?_⟩
                    have S03 := (Sm.trans S2).trans S3
                    generalize is ++ gs.map nmOf = nms at *
                    cases c5 : nms.all nameG
                    · rw [c5, Bool.false_and] at q
                      refine ⟨_, rfl, iteT ?_⟩
                      repeat walk_at "vc"
                      exact q H3 S03
                    · rw [c5, Bool.true_and] at q
                      have ez := names_str c5 az.1 az.2
                      by_cases c6 : (nms.map strOf).Nodup
                      · rw [decide_eq_true c6, Bool.true_and] at q
                        refine ⟨_, rfl, ifF (by rw [decide_eq_true c6]; rfl) ?_⟩
                        repeat walk_at "vc"
                        have hg3 := S03 _ _ hg
                        have hw3 := S3 _ _ hw
                        rw [ez] at hw3
                        have wl : (nms.map strOf).length ≤ 200 := by rw [List.length_map, ← az.1]; omega
                        refine i_comp (s_list (i_var rfl ⟨lg, rfl, ⟨_, SqL.of hg3⟩, fun L2 hL2 => ?_⟩))
                        refine comp_list (xs := ys) (fun m H' ys => Same H3 H' ∧ H' L2 = some (.lst ys) ∧ ys = ((gs.take m).map fun g => ruleG (nms.map strOf) 10 (rlOf g)).map V.bl) ⟨fresh_same hL2, upd_same, rfl⟩ (fun m H' ys p => ⟨p.2.1, SqL.of (p.1 _ _ hg3)⟩) (fun k x H' ys' e p => ?_) (fun H' ys' p => ?_)
                        · obtain ⟨Sm, hd, rfl⟩ := p
                          have hn : k < ys.length := (List.getElem?_eq_some_iff.mp e).1
                          obtain ⟨g, eg, ig⟩ := ag.get e
                          obtain ⟨b, w0, w1, m', rfl, hb, _, _, iv⟩ := pair_at ig (all_at c4 eg)
                          have S0m := S03.trans Sm
                          have hb' := S0m _ _ hb
                          refine s_name ⟨by refine ⟨?_, ?_⟩ <;> first | rfl | trivial, i_yes (iteT ?_)⟩
                          repeat walk_at "vc"
                          refine ⟨D, m', w1, rlOf g, lw, nms.map strOf, 10, rfl, by omega, by omega, iv.keep (.of S0m), Sm _ _ hw3, wl, fun H2 S2 => ?_⟩
                          exact NextC.mk (S2 _ _ hd) hn (by rw [List.length_map, List.length_map, List.length_take]; omega) ⟨same_upd (Sm.trans S2) hL2, upd_same, by rw [take_bl _ eg]⟩
                        · obtain ⟨Sm, hd, rfl⟩ := p
                          refine i_nil ⟨_, _, rfl, SqL.of hd, ?_⟩
                          rw [take_all _ _ hgl]
                          exact q H' (S03.trans Sm)
                      · rw [decide_eq_false c6, Bool.false_and] at q
                        refine ⟨_, rfl, ifT (by rw [decide_eq_false c6]; rfl) ?_⟩
                        repeat walk_at "vc"
                        exact q H3 S03
              · rw [decide_eq_false c3, Bool.false_and] at q
                refine ifT (by rw [decide_eq_false (show ¬ (ys.length : Int) ≤ 7 by omega)]; rfl) ?_
                repeat walk_at "vc"
                exact q H (Same.refl H)
            · rw [decide_eq_false c2, Bool.false_and] at q
              refine ifF (decide_eq_false (by omega)) ?_
              repeat walk_at "vc"
              exact q H (Same.refl H)
          · rw [decide_eq_false c1, Bool.false_and] at q
            refine ifT (decide_eq_true (by omega)) ?_
            repeat walk_at "vc"
            exact q H (Same.refl H)
        | _ =>
          refine ⟨_, rfl, iteT ?_⟩
          repeat walk_at "vc"
          exact no rfl
      | _ =>
        refine ⟨_, rfl, iteT ?_⟩
        repeat walk_at "vc"
        exact no rfl
end
set_option Elab.async false
set_option linter.all false
set_option maxRecDepth 100000
set_option maxHeartbeats 4000000


theorem upd_pair {H H' : Hp} {p : Addr} {o : HO} (h : H p = none) (e : upd H p o = H') : Same H H' ∧ H' p = some o := by
  subst e
  exact ⟨fresh_same h, upd_same⟩
theorem len_two {α : Type} {xs : List α} (h : xs.length = 2) : ∃ a b, xs = [a, b] := by
  match xs, h with
  | [a, b], _ => exact ⟨a, b, rfl⟩
noncomputable def isTxt (z : Str) : Tr → Bool
  | .str y => decide (y = z)
  | _ => false
theorem Is.heapK {K : PySem.W.Frag} {D : Addr → Prop} {H : Hp} {n : Nat} {a : Addr} {t : Tr} (h : Is D H n (.ref a) t) : HeapK K H a := by
  cases h with
  | lst no e => exact .inl ⟨_, SqL.of e⟩
  | tup no e => exact .inr (.inl ⟨_, SqT.of e⟩)
  | dct no e => exact .inr (.inr ⟨_, e⟩)
theorem i_eqTx {K : PySem.W.Frag} {D : Addr → Prop} {H : Hp} {n : Nat} {v : V} {t : Tr} {z : Str} {Q : VK} (h : Is D H n v t) (q : Q (.bl (isTxt z t)) H) : rEqTx K v (.str z) H Q := by
  cases id h with
  | non => exact .inl ⟨rfl, q⟩
  | bl => exact .inl ⟨rfl, q⟩
  | int => exact .inl ⟨rfl, q⟩
  | @str n y hy =>
    refine .inl ⟨rfl, ?_⟩
    have e : decide (V.str y = V.str z) = decide (y = z) := by
      rw [Bool.eq_iff_iff, decide_eq_true_iff, decide_eq_true_iff]
      exact ⟨fun h => by injection h, fun h => by rw [h]⟩
    rw [e]
    exact q
  | lst => exact .inr ⟨_, z, rfl, rfl, h.heapK, q⟩
  | tup => exact .inr ⟨_, z, rfl, rfl, h.heapK, q⟩
  | dct => exact .inr ⟨_, z, rfl, rfl, h.heapK, q⟩
noncomputable def inTxt (zs : List Str) : Tr → Bool
  | .str y => inV (.str y) (zs.map V.str)
  | _ => false
theorem inV_no {x : V} (h : ∀ z, x ≠ .str z) (f : flatV x = true) : ∀ zs : List Str, inV x (zs.map V.str) = false
  | [] => rfl
  | z :: zs => by
    have ih := inV_no h f zs
    unfold inV at ih ⊢
    rw [List.map_cons, List.any_cons, ih, Bool.or_false]
    cases x with
    | str y => exact absurd rfl (h y)
    | non => rfl
    | bl b => rfl
    | int i => rfl
    | _ => cases f
theorem i_inTx {K : PySem.W.Frag} {D : Addr → Prop} {H : Hp} {n : Nat} {v : V} {t : Tr} {p : Addr} {zs : List Str} {Q : VK} (h : Is D H n v t) (hp : H p = some (.lst (zs.map V.str))) (q : Q (.bl (inTxt zs t)) H) : rInTx K v (.ref p) H Q := by
  refine ⟨p, zs, rfl, SqL.of hp, ?_⟩
  cases id h with
  | non => exact .inl ⟨rfl, by rw [inV_no (fun _ h => by cases h) rfl]; exact q⟩
  | bl => exact .inl ⟨rfl, by rw [inV_no (fun _ h => by cases h) rfl]; exact q⟩
  | int => exact .inl ⟨rfl, by rw [inV_no (fun _ h => by cases h) rfl]; exact q⟩
  | str => exact .inl ⟨rfl, q⟩
  | lst => exact .inr ⟨_, rfl, h.heapK, q⟩
  | tup => exact .inr ⟨_, rfl, h.heapK, q⟩
  | dct => exact .inr ⟨_, rfl, h.heapK, q⟩
theorem strip_low (z : Str) : decide (V.str (stripR Lt z) = V.str "") = lowC z := by
  have e0 : ("" : Str) = Str.empty := by decide +kernel
  rw [Bool.eq_iff_iff, decide_eq_true_iff, e0]
  unfold lowC
  rw [List.all_eq_true]
  have h := strip_nil (y := Lt) (z := z)
  constructor
  · intro e c hc
    injection e with e
    have := h.mp e c hc
    simpa using this
  · intro a
    rw [h.mpr fun c hc => by simpa using a c hc]
theorem ruleG_notup {ws : List Str} {d : Nat} {t : Tr} (h : t.isTup = false) : ruleG ws d t = false := by
  cases d with
  | zero => rw [ruleG]
  | succ d =>
    cases t with
    | tup ts => cases h
    | _ => rw [ruleG]; exact fun _ _ h => by cases h
theorem ruleG_nil (ws : List Str) (d : Nat) : ruleG ws d (.tup []) = false := by
  cases d with
  | zero => rw [ruleG]
  | succ d => rw [ruleG]; exact fun _ _ h => by cases h
theorem ruleG_other {ws : List Str} {d : Nat} {t0 : Tr} {ts : List Tr} (h1 : isTxt "wire" t0 = false) (h2 : isTxt "not" t0 = false) (h3 : inTxt ["and", "or"] t0 = false) : ruleG ws d (.tup (t0 :: ts)) = false := by
  cases d with
  | zero => rw [ruleG]
  | succ d =>
    cases t0 with
    | str z =>
      rw [ruleG_tup, if_neg]
      have c1 : ¬ z = "wire" := of_decide_eq_false h1
      have c2 : ¬ z = "not" := of_decide_eq_false h2
      have c3 : ¬ z ∈ (["and", "or"] : List Str) := fun h => by
        have : inV (.str z) ((["and", "or"] : List Str).map V.str) = true := inV_str.mpr h
        have h3 : inV (.str z) ((["and", "or"] : List Str).map V.str) = false := h3
        rw [this] at h3
        cases h3
      unfold partN
      rw [if_neg c1, if_neg c2, if_neg (fun h => c3 (by rw [h]; simp)), if_neg (fun h => c3 (by rw [h]; simp))]
      exact fun h => by cases h
    | _ => rw [ruleG]; exact fun _ _ h => by cases h
noncomputable def spRuleL (k : Nat) : Sp := fun vs H Q _ => ∃ (D : Addr → Prop) (n : Nat) (v : V) (t : Tr) (l : Addr) (ws : List Str) (d : Nat), vs = [v, .ref l, .int (11 - d)] ∧ d + 1 ≤ k ∧ d ≤ 10 ∧ Is D H n v t ∧ H l = some (.lst (ws.map V.str)) ∧ ws.length ≤ 200 ∧ ∀ H', Same H H' → Q (.bl (ruleG ws d t)) H'
section
variable {P : Program} {w : World} {K : PySem.W.Frag} {mg : Str → Option Value} {base : Heap} {TT : Addr}
theorem sc_law_name_good : FnScope ["thing"] ["thing"] (defScope (top 23)) := ⟨rfl, rfl, rfl, by decide +kernel, rfl, by decide +kernel, by decide +kernel⟩
theorem ok_nameL {f : Addr} {fd : FuncData} (Fu : Fun K "_law_name_good" "_law_name_good" (top 23) f fd) (T : Txt K mg TT) : FnOk P w K mg base CX0 1 f fd ["thing"] spNameT := by
  have S := sc_law_name_good
  refine Fu.ok S (fun vs H Q E h => ?_) (fun cdv A outer s H vs Q E hr h => ?_)
  · obtain ⟨D, n, v, t, rfl, _⟩ := h
    rfl
  · obtain ⟨D, n, v, t, rfl, it, q⟩ := h
    refine ⟨_, (pss_cons (ps_if (PW.pt (pw_or (pt_not (pt_val (pe_callB call_isinst (by rfl) T.n_isinstance PyProof.Rows.boot_isinstance (pa_cons (pv 0) (pa_cons (pe_bltn (v := .ty "str") (by rfl) T.n_str PyProof.Rows.boot_str rfl) pa_nil))))) (pw_or1 (pt_not (pt_chain op_lt op_lt pe_int (pe_callB call_len_str (by rfl) T.n_len PySem.boot_len (pa_cons (pv 0) pa_nil)) pe_int))))) (pss_one (ps_ret pe_bl)) pss_nil)
      (pss_one (ps_ret (pe_cmpR op_eq (pe_bm PySem.F.plainAttrs_str PySem.F.slot_str_strip PySem.F.type_str_strip mt_strip (pv 0) (pa_cons pe_str pa_nil)) pe_str (nomark _))))), ?_⟩
    dsimp only [cxOf, Cx.nox, Cx.wish]
    rw [show L2.start ["thing"] [v] = [some v] from rfl]
    have big : 1000 < sizeLine := by decide
    repeat walk_at "vc"
    refine ⟨_, _, _, _, rfl, it.ty, kit_str _, ?_⟩
    cases it with
    | @str n z hz =>
      refine ⟨_, rfl, iteF ?_⟩
      repeat walk_at "vc"
      refine i_chain ?_
      repeat walk_at "vc"
      refine ⟨_, rfl, by omega, ?_⟩
      repeat walk_at "vc"
      by_cases c1 : 1 ≤ z.length
      · refine ifT (decide_eq_true (by omega)) ?_
        repeat walk_at "vc"
        by_cases c2 : z.length ≤ 8
        · refine ifF (by rw [decide_eq_true (by omega)]; rfl) ?_
          repeat walk_at "vc"
          refine ⟨rfl, ?_⟩
          repeat walk_at "vc"
          refine ⟨z, Lt, rfl, rfl, by omega, ?_⟩
          repeat walk_at "vc"
          rw [strip_low]
          have e : nameG (.str z) = lowC z := by
            show (decide (1 ≤ z.length) && (decide (z.length ≤ 8) && _)) = _
            rw [decide_eq_true c1, decide_eq_true c2]; rfl
          rw [← e]
          exact q H (Same.refl H)
        · refine ifT (by rw [decide_eq_false (by omega)]; rfl) ?_
          repeat walk_at "vc"
          have e : nameG (.str z) = false := by
            show (decide (1 ≤ z.length) && (decide (z.length ≤ 8) && _)) = _
            rw [decide_eq_false c2]; simp
          rw [← e]
          exact q H (Same.refl H)
      · refine ifF (decide_eq_false (by omega)) ?_
        repeat walk_at "vc"
        have e : nameG (.str z) = false := by
          show (decide (1 ≤ z.length) && (decide (z.length ≤ 8) && _)) = _
          rw [decide_eq_false c1]; simp
        first
          | (rw [← e]; exact q H (Same.refl H))
          | (refine iteT ?_; repeat walk_at "vc"
             rw [← e]; exact q H (Same.refl H))
    | _ =>
      refine ⟨_, rfl, iteT ?_⟩
      repeat walk_at "vc"
      exact q H (Same.refl H)
theorem sc_law_rule_good : FnScope ["thing", "names", "deep"] ["thing", "names", "deep"] (defScope (top 24)) := ⟨rfl, rfl, rfl, by decide +kernel, rfl, by decide +kernel, by decide +kernel⟩
theorem ok_ruleL {f : Addr} {fd : FuncData} (Fu : Fun K "_law_rule_good" "_law_rule_good" (top 24) f fd) (T : Txt K mg TT) (hm : mg "_law_rule_good" = some (.ref f)) (hk : PySem.W.keepIn K (.ref f) = true) (hb : Binds K fd ["thing", "names", "deep"] []) : ∀ d, FnOk P w K mg base CX0 d f fd ["thing", "names", "deep"] (spRuleL d)
  | 0 => fnok_false fun vs H Q E ⟨D, n, v, t, l, ws, d, _, h, _⟩ => by omega
  | k + 1 => by
    have S := sc_law_rule_good
    have f_law_rule_good : Fn P w K mg base "_law_rule_good" ["thing", "names", "deep"] k (spRuleL k) := ⟨f, fd, ok_ruleL Fu T hm hk hb k, hm, hk, hb⟩
    refine Fu.ok S (fun vs H Q E h => ?_) (fun cdv A outer s H vs Q E hr h => ?_)
    · obtain ⟨D, n, v, t, l, ws, d, rfl, _⟩ := h
      rfl
    · obtain ⟨D, n, v, t, l, ws, d, rfl, hd, hd10, it, hl, hw, q⟩ := h
      have hu := hu_of hr
      have big : 1000 < sizeLine := by decide
      refine ⟨_, (pss_cons (ps_if (PW.pt (pw_or (pt_not (pt_val (pe_callB call_isinst (by rfl) T.n_isinstance PyProof.Rows.boot_isinstance (pa_cons (pv 0) (pa_cons (pe_bltn (v := .ty "tuple") (by rfl) T.n_tuple PyProof.Rows.boot_tuple rfl) pa_nil))))) (pw_or (pt_cmpR (op_eqT hr.units) (pv 0) (pe_tup pa_nil) (nomark _)) (pw_or1 (pt_cmpR op_gt (pv 2) pe_int (nomark _)))))) (pss_one (ps_ret pe_bl)) pss_nil)
      (pss_cons (ps_if (PW.pt (pw_and (pt_cmpR (op_eqTx hr.units) (pe_ix ix_tup (pv 0) pe_int (fun _ _ => rfl)) pe_str (nomark _)) (pw_and1 (pt_cmpR op_eq (pe_callB call_len_seq (by rfl) T.n_len PySem.boot_len (pa_cons (pv 0) pa_nil)) pe_int (nomark _))))) (pss_one (ps_ret (pe_and (pe_callB call_isinst (by rfl) T.n_isinstance PyProof.Rows.boot_isinstance (pa_cons (pe_ix ix_tup (pv 0) pe_int (fun _ _ => rfl)) (pa_cons (pe_bltn (v := .ty "str") (by rfl) T.n_str PyProof.Rows.boot_str rfl) pa_nil))) (pe_one (pe_cmpR op_gt (pe_bm PySem.F.plainAttrs_list PySem.F.slot_list_count PySem.F.type_list_count mt_count (pv 1) (pa_cons (pe_ix ix_tup (pv 0) pe_int (fun _ _ => rfl)) pa_nil)) pe_int (nomark _)))))) pss_nil)
      (pss_cons (ps_if (PW.pt (pw_and (pt_cmpR (op_eqTx hr.units) (pe_ix ix_tup (pv 0) pe_int (fun _ _ => rfl)) pe_str (nomark _)) (pw_and1 (pt_cmpR op_eq (pe_callB call_len_seq (by rfl) T.n_len PySem.boot_len (pa_cons (pv 0) pa_nil)) pe_int (nomark _))))) (pss_one (ps_ret (pe_fn f_law_rule_good (hr.mono (by first | decide | omega)) (by rfl) (pa_cons (pe_ix ix_tup (pv 0) pe_int (fun _ _ => rfl)) (pa_cons (pv 1) (pa_cons (pe_op op_add (pv 2) pe_int) pa_nil)))))) pss_nil)
      (pss_cons (ps_if (PW.pt (pw_and (pt_cmpR (op_inTx hr.units) (pe_ix ix_tup (pv 0) pe_int (fun _ _ => rfl)) (pe_lst (pa_cons pe_str (pa_cons pe_str pa_nil))) rfl) (pw_and1 (pt_cmpR op_eq (pe_callB call_len_seq (by rfl) T.n_len PySem.boot_len (pa_cons (pv 0) pa_nil)) pe_int (nomark _))))) (pss_one (ps_ret (pe_and (pe_fn f_law_rule_good (hr.mono (by first | decide | omega)) (by rfl) (pa_cons (pe_ix ix_tup (pv 0) pe_int (fun _ _ => rfl)) (pa_cons (pv 1) (pa_cons (pe_op op_add (pv 2) pe_int) pa_nil)))) (pe_one (pe_fn f_law_rule_good (hr.mono (by first | decide | omega)) (by rfl) (pa_cons (pe_ix ix_tup (pv 0) pe_int (fun _ _ => rfl)) (pa_cons (pv 1) (pa_cons (pe_op op_add (pv 2) pe_int) pa_nil)))))))) pss_nil)
      (pss_one (ps_ret pe_bl)))))), ?_⟩
      try dsimp only [cxOf, Cx.nox, Cx.wish]
      rw [show L2.start ["thing", "names", "deep"] [v, V.ref l, V.int (11 - d)] = [some v, some (.ref l), some (.int (11 - d))] from rfl]
      repeat walk_at "vc"
      refine ⟨_, _, _, _, rfl, it.ty, kit_tup _, ?_⟩
      cases ct : t.isTup
      · refine ⟨_, rfl, iteT ?_⟩
        repeat walk_at "vc"
        have z := q H (Same.refl H)
        rw [ruleG_notup ct] at z
        exact z
      · cases it with
        | @tup n b xs ts nown hb hle hz hi =>
          refine ⟨_, rfl, iteF ?_⟩
          repeat walk_at "vc"
          refine ⟨by decide, fun p hp => ?_⟩
          generalize hE : upd H p _ = H1
          obtain ⟨S1, q1⟩ := upd_pair hp hE
          clear hE
          refine ⟨b, p, xs, [], fun _ => true, rfl, rfl, SqT.of (S1 _ _ hb), SqT.of q1, (fun j x y _ h => by simp at h), ⟨_, rfl, ?_⟩⟩
          have hb1 := S1 _ _ hb
          have hl1 := S1 _ _ hl
          match xs, ts, hle with
          | [], [], _ =>
            refine ifT (by simp) ?_
            repeat walk_at "vc"
            have z := q H1 S1
            rw [ruleG_nil] at z
            exact z
          | x0 :: as, t0 :: ts, hle =>
            have hla : as.length = ts.length := by simpa using hle
            have hz' : as.length + 1 ≤ 100 := by simpa using hz
            refine ifF (by simp) ?_
            repeat walk_at "vc"
            cases d with
            | zero =>
              refine ifT (decide_eq_true (by omega)) ?_
              repeat walk_at "vc"
              have z := q H1 S1
              rw [ruleG] at z
              exact z
            | succ d =>
              refine ifF (decide_eq_false (by omega)) ?_
              have i0 : Is D H1 n x0 t0 := (hi 0 x0 t0 rfl rfl).keep (.of S1)
              have q : ∀ H', Same H1 H' → Q (.bl (ruleG ws (d + 1) (.tup (t0 :: ts)))) H' := fun H' s' => q H' (S1.trans s')
              have hj : ∀ (j : Nat) x t, as[j]? = some x → ts[j]? = some t → Is D H1 n x t := fun j x t e1 e2 => (hi (j + 1) x t (by simpa using e1) (by simpa using e2)).keep (.of S1)
              clear hb hl hp q1 S1 nown hz hle
              have len2 : ∀ m : Nat, decide (V.int (((x0 :: as).length : Nat) : Int) = V.int (m : Int)) = decide (ts.length + 1 = m) := fun m => by rw [ints_eq]; simp [hla]
              have e11 : (11 : Int) - ((d + 1 : Nat) : Int) + 1 = 11 - d := by omega
              repeat walk_at "vc"
              refine i_ixT hb1 (atI_nat (j := 0) rfl) ?_
              repeat walk_at "vc"
              refine i_eqTx i0 ?_
              cases cw : isTxt "wire" t0
              · refine ⟨_, rfl, iteF ?_⟩
                repeat walk_at "vc"
                refine i_ixT hb1 (atI_nat (j := 0) rfl) ?_
                repeat walk_at "vc"
                refine i_eqTx i0 ?_
                cases cn : isTxt "not" t0
                · refine ⟨_, rfl, iteF ?_⟩
                  repeat walk_at "vc"
                  refine i_ixT hb1 (atI_nat (j := 0) rfl) ?_
                  repeat walk_at "vc"
                  refine ⟨by decide, fun p hp => ?_⟩
                  generalize hE : upd H1 p _ = H2
                  obtain ⟨S2, q2⟩ := upd_pair hp hE
                  clear hE
                  have q2 : H2 p = some (.lst ((["and", "or"] : List Str).map V.str)) := q2
                  refine i_inTx (i0.keep (.of S2)) q2 ?_
                  have hb2 := S2 _ _ hb1
                  cases ca : inTxt ["and", "or"] t0
                  · refine ⟨_, rfl, iteF ?_⟩
                    repeat walk_at "vc"
                    have z := q H2 S2
                    rw [ruleG_other cw cn ca] at z
                    exact z
                  · refine ⟨_, rfl, iteT ?_⟩
                    repeat walk_at "vc"
                    refine ⟨b, _, rfl, .inr (SqT.of hb2), ?_⟩
                    repeat walk_at "vc"
                    rw [show decide (V.int ↑(x0 :: as).length = V.int 3) = decide (ts.length + 1 = 3) from len2 3]
                    obtain ⟨y, rfl, hy⟩ : ∃ y, t0 = .str y ∧ (y = "and" ∨ y = "or") := by
                      cases t0 with
                      | str y =>
                        have := inV_str.mp (show inV (.str y) ((["and", "or"] : List Str).map V.str) = true from ca)
                        exact ⟨y, rfl, by simpa using this⟩
                      | _ => cases ca
                    have hyw : ¬ y = "wire" := by rcases hy with h | h <;> rw [h] <;> decide +kernel
                    have hyp : partN y = some 3 := by rcases hy with h | h <;> rw [h] <;> decide +kernel
                    rw [ruleG_tup, hyp] at q
                    by_cases c3 : ts.length + 1 = 3
                    · rw [if_pos (by rw [c3]), if_neg hyw] at q
                      refine ifT (decide_eq_true c3) ?_
                      obtain ⟨t1, t2, rfl⟩ := len_two (show ts.length = 2 by omega)
                      obtain ⟨x1, x2, rfl⟩ := len_two (show as.length = 2 by rw [hla]; rfl)
                      repeat walk_at "vc"
                      refine ⟨D, n, x1, t1, l, ws, d, by rw [e11], by omega, by omega, (hj 0 x1 t1 rfl rfl).keep (.of S2), S2 _ _ hl1, hw, fun H3 S3 => ?_⟩
                      have hb3 := S3 _ _ hb2
                      rw [show [t1, t2].all (ruleG ws d) = (ruleG ws d t1 && ruleG ws d t2) by simp] at q
                      cases c1 : ruleG ws d t1
                      · rw [c1, Bool.false_and] at q
                        exact ⟨_, rfl, iteF (q H3 (S2.trans S3))⟩
                      · rw [c1, Bool.true_and] at q
                        refine ⟨_, rfl, iteT ?_⟩
                        repeat walk_at "vc"
                        exact ⟨D, n, x2, t2, l, ws, d, by rw [e11], by omega, by omega, (hj 1 x2 t2 rfl rfl).keep (.of (S2.trans S3)), (S2.trans S3) _ _ hl1, hw, fun H4 S4 => q H4 (S2.trans (S3.trans S4))⟩
                    · rw [if_neg (fun h => by injection h with h; omega)] at q
                      refine ifF (decide_eq_false c3) ?_
                      repeat walk_at "vc"
                      exact q H2 S2
                · refine ⟨_, rfl, iteT ?_⟩
                  repeat walk_at "vc"
                  refine ⟨b, _, rfl, .inr (SqT.of hb1), ?_⟩
                  repeat walk_at "vc"
                  rw [show decide (V.int ↑(x0 :: as).length = V.int 2) = decide (ts.length + 1 = 2) from len2 2]
                  obtain rfl : t0 = .str "not" := by
                    cases t0 with
                    | str y => rw [show y = "not" from of_decide_eq_true cn]
                    | _ => cases cn
                  rw [ruleG_tup, show partN "not" = some 2 by decide +kernel] at q
                  by_cases c3 : ts.length + 1 = 2
                  · rw [if_pos (by rw [c3]), if_neg (by decide +kernel)] at q
                    refine ifT (decide_eq_true c3) ?_
                    obtain ⟨t1, rfl⟩ := List.length_eq_one_iff.mp (show ts.length = 1 by omega)
                    obtain ⟨x1, rfl⟩ := List.length_eq_one_iff.mp (show as.length = 1 by rw [hla]; rfl)
                    repeat walk_at "vc"
                    refine ⟨D, n, x1, t1, l, ws, d, by rw [e11], by omega, by omega, hj 0 x1 t1 rfl rfl, hl1, hw, fun H3 S3 => ?_⟩
                    have z := q H3 S3
                    rw [show [t1].all (ruleG ws d) = ruleG ws d t1 by simp] at z
                    exact z
                  · rw [if_neg (fun h => by injection h with h; omega)] at q
                    refine ifF (decide_eq_false c3) ?_
                    repeat walk_at "vc"
                    refine i_ixT hb1 (atI_nat (j := 0) rfl) ?_
                    repeat walk_at "vc"
                    refine ⟨by decide, fun p hp => ?_⟩
                    generalize hE : upd H1 p _ = H2
                    obtain ⟨S2, q2⟩ := upd_pair hp hE
                    clear hE
                    have q2 : H2 p = some (.lst ((["and", "or"] : List Str).map V.str)) := q2
                    refine i_inTx (i0.keep (.of S2)) q2 ?_
                    rw [show inTxt ["and", "or"] (.str "not") = false by decide +kernel]
                    refine ⟨_, rfl, iteF ?_⟩
                    repeat walk_at "vc"
                    exact q H2 S2
              · refine ⟨_, rfl, iteT ?_⟩
                repeat walk_at "vc"
                refine ⟨b, _, rfl, .inr (SqT.of hb1), ?_⟩
                repeat walk_at "vc"
                rw [show decide (V.int ↑(x0 :: as).length = V.int 2) = decide (ts.length + 1 = 2) from len2 2]
                obtain rfl : t0 = .str "wire" := by
                  cases t0 with
                  | str y => rw [show y = "wire" from of_decide_eq_true cw]
                  | _ => cases cw
                rw [ruleG_tup, show partN "wire" = some 2 by decide +kernel] at q
                by_cases c3 : ts.length + 1 = 2
                · rw [if_pos (by rw [c3]), if_pos rfl] at q
                  refine ifT (decide_eq_true c3) ?_
                  obtain ⟨t1, rfl⟩ := List.length_eq_one_iff.mp (show ts.length = 1 by omega)
                  obtain ⟨x1, rfl⟩ := List.length_eq_one_iff.mp (show as.length = 1 by rw [hla]; rfl)
                  repeat walk_at "vc"
                  have i1 := hj 0 x1 t1 rfl rfl
                  refine ⟨_, _, _, _, rfl, i1.ty, kit_str _, ?_⟩
                  have z := q H1 (Same.refl H1)
                  rw [show [t1].all (memT ws) = memT ws t1 by simp] at z
                  cases i1 with
                  | @str n y hy =>
                    refine ⟨_, rfl, iteT ?_⟩
                    repeat walk_at "vc"
                    refine ⟨l, ws, y, rfl, rfl, hl1, ?_⟩
                    repeat walk_at "vc"
                    have e : decide ((0 : Int) < (ws.count y : Nat)) = inV (.str y) (ws.map V.str) := by
                      rw [Bool.eq_iff_iff, decide_eq_true_iff, inV_str, ← List.count_pos_iff]
                      omega
                    rw [e]
                    exact z
                  | _ => exact ⟨_, rfl, iteF z⟩
                · rw [if_neg (fun h => by injection h with h; omega)] at q
                  refine ifF (decide_eq_false c3) ?_
                  repeat walk_at "vc"
                  refine i_ixT hb1 (atI_nat (j := 0) rfl) ?_
                  repeat walk_at "vc"
                  refine i_eqTx i0 ?_
                  rw [show isTxt "not" (.str "wire") = false by decide +kernel]
                  refine ⟨_, rfl, iteF ?_⟩
                  repeat walk_at "vc"
                  refine i_ixT hb1 (atI_nat (j := 0) rfl) ?_
                  repeat walk_at "vc"
                  refine ⟨by decide, fun p hp => ?_⟩
                  generalize hE : upd H1 p _ = H2
                  obtain ⟨S2, q2⟩ := upd_pair hp hE
                  clear hE
                  have q2 : H2 p = some (.lst ((["and", "or"] : List Str).map V.str)) := q2
                  refine i_inTx (i0.keep (.of S2)) q2 ?_
                  rw [show inTxt ["and", "or"] (.str "wire") = false by decide +kernel]
                  refine ⟨_, rfl, iteF ?_⟩
                  repeat walk_at "vc"
                  exact q H2 S2
        | _ => cases ct
end
set_option Elab.async false
set_option linter.all false
set_option maxRecDepth 100000
set_option maxHeartbeats 4000000


theorem comp_listF {K : PySem.W.Frag} {H1 : Hp} {D : Addr} {σ0 : St} {g : TG} {te : TE} {tt : TT} {QD : Hp → Prop} {a : Addr} {xs : List V} (Pv : Nat → Hp → List V → Prop) (h0 : Pv 0 (upd H1 D (.lst [])) []) (hD : ∀ i H ys, Pv i H ys → H D = some (.lst ys) ∧ SqL K H a xs)
    (hs : ∀ i x H ys, xs[i]? = some x → Pv i H ys → g x σ0 H fun σ2 H2 => wk σ0 σ2 ∧ tt σ2 H2 fun b H3 => if b = true then te σ2 H3 (NextC Pv xs.length D i ys) else ∃ m', m' < xs.length - i ∧ (m' = xs.length - (i + 1) ∧ i + 1 ≤ xs.length ∧ Pv (i + 1) H3 ys)) (hd : ∀ H ys, Pv xs.length H ys → QD H) :
    ∃ W : Nat → Nat → Hp → List V → Prop, (∃ m, W 0 m (upd H1 D (.lst [])) []) ∧ ∀ i m H ys, W i m H ys → H D = some (.lst ys) ∧ (((Itl K a).stop i H ∧ QD H) ∨ ((Itl K a).go i H ∧ ∀ x H', (Itl K a).yld i H x H' → g x σ0 H' fun σ2 H2 => wk σ0 σ2 ∧ tt σ2 H2 fun b H3 =>
      if b = true then te σ2 H3 fun v H4 => H4 D = some (.lst ys) ∧ ys.length < sizeLine ∧ ∃ m', m' < m ∧ W (i + 1) m' (upd H4 D (.lst (ys ++ [v]))) (ys ++ [v]) else ∃ m', m' < m ∧ W (i + 1) m' H3 ys)) := by
  refine ⟨fun i m H ys => m = xs.length - i ∧ i ≤ xs.length ∧ Pv i H ys, ⟨xs.length, by simp, Nat.zero_le _, h0⟩, ?_⟩
  rintro i m H ys ⟨rfl, hi, p⟩
  obtain ⟨d1, d2⟩ := hD i H ys p
  refine ⟨d1, ?_⟩
  by_cases hlt : i < xs.length
  · refine .inr ⟨⟨xs, xs[i], d2, by simp [hlt]⟩, fun x H' y => ?_⟩
    obtain ⟨e, y⟩ := y
    subst e
    exact hs i x _ ys (y xs d2) p
  · have e : i = xs.length := by omega
    subst e
    exact .inl ⟨⟨xs, d2, Nat.le_refl _⟩, hd H ys p⟩
theorem take_all_succ {α : Type} {f : α → Bool} {ts : List α} {m : Nat} {t : α} (e : ts[m]? = some t) : (ts.take (m + 1)).all f = ((ts.take m).all f && f t) := by
  rw [List.take_succ, e]; simp
theorem take_all' {α : Type} (f : α → Bool) (ts : List α) {n : Nat} (h : n = ts.length) : (ts.take n).all f = ts.all f := by rw [h, List.take_length]
theorem comp_bad {K : PySem.W.Frag} {H1 : Hp} {L l : Addr} {σ0 : St} {tt : TT} {QD : Hp → Prop} {xs : List V} {us : List Tr} {f : Tr → Bool} (hl : H1 l = some (.lst xs)) (hL : H1 L = none) (len : xs.length = us.length) (few : xs.length ≤ 200)
    (hwk : ∀ x, wk σ0 (σ0.set 0 (some x))) (h0 : ∃ y r, σ0 = y :: r)
    (ht : ∀ (i : Nat) x u H' (R : Bool → Hp → Prop), xs[i]? = some x → us[i]? = some u → Same H1 H' → (∀ H'', Same H' H'' → R (!f u) H'') → tt (σ0.set 0 (some x)) H' R)
    (hd : ∀ H' ys, Same H1 H' → H' L = some (.lst ys) → (ys.isEmpty = us.all f) → QD H') :
    ∃ W : Nat → Nat → Hp → List V → Prop, (∃ m, W 0 m (upd H1 L (.lst [])) []) ∧ ∀ i m H ys, W i m H ys → H L = some (.lst ys) ∧ (((Itl K l).stop i H ∧ QD H) ∨ ((Itl K l).go i H ∧ ∀ x H', (Itl K l).yld i H x H' → gName 0 x σ0 H' fun σ2 H2 => wk σ0 σ2 ∧ tt σ2 H2 fun b H3 =>
      if b = true then tVar 0 σ2 H3 fun v H4 => H4 L = some (.lst ys) ∧ ys.length < sizeLine ∧ ∃ m', m' < m ∧ W (i + 1) m' (upd H4 L (.lst (ys ++ [v]))) (ys ++ [v]) else ∃ m', m' < m ∧ W (i + 1) m' H3 ys)) := by
  have big : 1000 < sizeLine := by decide
  refine comp_listF (xs := xs) (fun m H' ys => Same H1 H' ∧ H' L = some (.lst ys) ∧ ys.length ≤ m ∧ ys.isEmpty = (us.take m).all f) ⟨fresh_same hL, upd_same, Nat.le_refl _, rfl⟩ (fun m H' ys p => ⟨p.2.1, SqL.of (p.1 _ _ hl)⟩) (fun i x H' ys e p => ?_) (fun H' ys p => ?_)
  · obtain ⟨Sm, hL', ln, em⟩ := p
    have hi : i < xs.length := (List.getElem?_eq_some_iff.mp e).1
    have eu : us[i]? = some us[i] := List.getElem?_eq_getElem (by omega)
    refine s_name ⟨hwk _, ?_⟩
    refine ht i x us[i] H' _ e eu Sm fun H'' S2 => ?_
    have S02 := Sm.trans S2
    cases c : f us[i]
    · refine iteT ?_
      obtain ⟨y, r, rfl⟩ := h0
      refine i_var rfl (NextC.mk (S2 _ _ hL') hi (by omega) ⟨same_upd S02 hL, upd_same, by simp; omega, ?_⟩)
      rw [take_all_succ eu, c]
      simp
    · refine iteF ⟨_, by omega, rfl, by omega, S02, S2 _ _ hL', by omega, ?_⟩
      rw [take_all_succ eu, c, Bool.and_true]
      exact em
  · obtain ⟨Sm, hL', ln, em⟩ := p
    exact hd H' ys Sm hL' (by rw [em, take_all' _ _ len])
theorem ne_nil_v {ys : List V} : (!(ys.length == ([] : List V).length && (List.range ys.length).all fun _ => true)) = !ys.isEmpty := by cases ys <;> simp
theorem eq_nil_v {ys : List V} : (ys.length == ([] : List V).length && (List.range ys.length).all fun _ => true) = ys.isEmpty := by cases ys <;> simp
theorem count_nodup {ws : List Str} : (ws.all fun y => !decide ((1 : Int) < (ws.count y : Nat))) = decide ws.Nodup := by
  rw [Bool.eq_iff_iff, List.all_eq_true, decide_eq_true_iff, List.nodup_iff_count]
  constructor
  · intro h a
    by_cases m : a ∈ ws
    · have := h a m
      simp at this
      omega
    · rw [List.count_eq_zero.mpr m]; omega
  · intro h y hy
    have := h y
    simp
    omega
section
variable {P : Program} {w : World} {K : PySem.W.Frag} {mg : Str → Option Value} {base : Heap} {TT : Addr}
theorem sc_law_good : FnScope ["thing", "gate", "names"] ["thing"] (defScope (top 25)) := ⟨rfl, rfl, rfl, by decide +kernel, rfl, by decide +kernel, by decide +kernel⟩
theorem ok_goodL {f : Addr} {fd : FuncData} (Fu : Fun K "_law_good" "_law_good" (top 25) f fd) (T : Txt K mg TT) (f_law_name_good : Fn P w K mg base "_law_name_good" ["thing"] 1 spNameT) (f_law_rule_good : Fn P w K mg base "_law_rule_good" ["thing", "names", "deep"] 11 (spRuleL 11)) : FnOk P w K mg base CX0 12 f fd ["thing"] spIsNetT := by
  have S := sc_law_good
  refine Fu.ok S (fun vs H Q E h => ?_) (fun cdv A outer s H vs Q E hr h => ?_)
  · obtain ⟨D, n, v, t, rfl, _⟩ := h
    rfl
  · obtain ⟨D, n, v, t, rfl, it, q⟩ := h
    have hu := hu_of hr
    have big : 1000 < sizeLine := by decide
    refine ⟨_, (pss_cons (ps_if (PW.pt (pw_or (pt_not (pt_val (pe_callB call_isinst (by rfl) T.n_isinstance PyProof.Rows.boot_isinstance (pa_cons (pv 0) (pa_cons (pe_bltn (v := .ty "tuple") (by rfl) T.n_tuple PyProof.Rows.boot_tuple rfl) pa_nil))))) (pw_or1 (pt_cmpR op_ne (pe_callB call_len_seq (by rfl) T.n_len PySem.boot_len (pa_cons (pv 0) pa_nil)) pe_int (nomark _))))) (pss_one (ps_ret pe_bl)) pss_nil)
      (pss_cons (ps_if (PW.pt (pw_or (pt_not (pt_val (pe_callB call_isinst (by rfl) T.n_isinstance PyProof.Rows.boot_isinstance (pa_cons (pe_ix ix_tup (pv 0) pe_int (fun _ _ => rfl)) (pa_cons (pe_bltn (v := .ty "list") (by rfl) T.n_list PyProof.Rows.boot_list rfl) pa_nil))))) (pw_or1 (pt_not (pt_val (pe_callB call_isinst (by rfl) T.n_isinstance PyProof.Rows.boot_isinstance (pa_cons (pe_ix ix_tup (pv 0) pe_int (fun _ _ => rfl)) (pa_cons (pe_bltn (v := .ty "list") (by rfl) T.n_list PyProof.Rows.boot_list rfl) pa_nil)))))))) (pss_one (ps_ret pe_bl)) pss_nil)
      (pss_cons (ps_if (PW.pt (pw_or (pt_cmpR op_gt (pe_callB call_len_seq (by rfl) T.n_len PySem.boot_len (pa_cons (pe_ix ix_tup (pv 0) pe_int (fun _ _ => rfl)) pa_nil)) pe_int (nomark _)) (pw_or1 (pt_not (pt_chain op_lt op_lt pe_int (pe_callB call_len_seq (by rfl) T.n_len PySem.boot_len (pa_cons (pe_ix ix_tup (pv 0) pe_int (fun _ _ => rfl)) pa_nil)) pe_int))))) (pss_one (ps_ret pe_bl)) pss_nil)
      (pss_cons (ps_for PassesOwn.never rfl (pi_list (pe_ix ix_tup (pv 0) pe_int (fun _ _ => rfl))) (pg_name (i := 1) S.nd rfl (by first | exact Or.inl rfl | exact Or.inr rfl))
      (pss_one (ps_if (PW.pt (pw_or (pt_not (pt_val (pe_callB call_isinst (by rfl) T.n_isinstance PyProof.Rows.boot_isinstance (pa_cons (pv 1) (pa_cons (pe_bltn (v := .ty "tuple") (by rfl) T.n_tuple PyProof.Rows.boot_tuple rfl) pa_nil))))) (pw_or1 (pt_cmpR op_ne (pe_callB call_len_seq (by rfl) T.n_len PySem.boot_len (pa_cons (pv 1) pa_nil)) pe_int (nomark _))))) (pss_one (ps_ret pe_bl)) pss_nil)))
      (pss_cons (ps_set (i := 2) S.nd rfl (by first | exact Or.inl rfl | exact Or.inr rfl) (pe_op op_cat (pe_ix ix_tup (pv 0) pe_int (fun _ _ => rfl)) (pe_lc (tgs := ["gate"]) (cap := []) rfl ⟨rfl, rfl, rfl, rfl, rfl, rfl⟩ (pi_list (pe_ix ix_tup (pv 0) pe_int (fun _ _ => rfl))) (fun _ _ _ _ => (pg_name (i := 0) (show List.Nodup [("gate" : Str)] by decide +kernel) rfl (by first | exact Or.inl rfl | exact Or.inr rfl))) (fun _ _ _ _ => pifs_nil) (fun _ _ _ _ => (pe_ix (ix_tupK (K := K) rfl) (pv 0) pe_int (fun _ _ => rfl))))))
      (pss_cons (ps_if (pt_cmpR (op_neL hr.units) (pe_lc (tgs := ["name"]) (cap := []) rfl ⟨rfl, rfl, rfl, rfl, rfl, rfl⟩ (pi_list (pv 2)) (fun _ _ _ _ => (pg_name (i := 0) (show List.Nodup [("name" : Str)] by decide +kernel) rfl (by first | exact Or.inl rfl | exact Or.inr rfl))) (fun _ _ _ _ => (pifs_one (pt_not (pt_val (pe_fn f_law_name_good (hr.mono (by first | decide | omega)) (by rfl) (pa_cons (pv 0) pa_nil)))))) (fun _ _ _ _ => (pv 0))) (pe_lst pa_nil) (nomark _)) (pss_one (ps_ret pe_bl)) pss_nil)
      (pss_cons (ps_if (pt_cmpR (op_neL hr.units) (pe_lc (tgs := ["name"]) (cap := [("names", 2)]) rfl ⟨rfl, rfl, rfl, rfl, rfl, rfl⟩ (pi_list (pv 2)) (fun _ _ _ _ => (pg_name (i := 0) (show List.Nodup [("name" : Str), ("names" : Str)] by decide +kernel) rfl (by first | exact Or.inl rfl | exact Or.inr rfl))) (fun _ _ _ _ => (pifs_one (pt_cmpR op_gt (pe_bmK (K := K) rfl PySem.F.plainAttrs_list PySem.F.slot_list_count PySem.F.type_list_count mt_count (pv 1) (pa_cons (pv 0) pa_nil)) pe_int (nomark _)))) (fun _ _ _ _ => (pv 0))) (pe_lst pa_nil) (nomark _)) (pss_one (ps_ret pe_bl)) pss_nil)
      (pss_one (ps_ret (pe_cmpR (op_eqL hr.units) (pe_lc (tgs := ["gate"]) (cap := [("names", 2)]) rfl ⟨rfl, rfl, rfl, rfl, rfl, rfl⟩ (pi_list (pe_ix ix_tup (pv 0) pe_int (fun _ _ => rfl))) (fun _ _ _ _ => (pg_name (i := 0) (show List.Nodup [("gate" : Str), ("names" : Str)] by decide +kernel) rfl (by first | exact Or.inl rfl | exact Or.inr rfl))) (fun _ _ _ _ => (pifs_one (pt_not (pt_val (pe_fn f_law_rule_good (hr.mono (by first | decide | omega)) (by rfl) (pa_cons (pe_ix (ix_tupK (K := K) rfl) (pv 0) pe_int (fun _ _ => rfl)) (pa_cons (pv 1) (pa_cons pe_int pa_nil)))))))) (fun _ _ _ _ => (pv 0))) (pe_lst pa_nil) (nomark _))))))))))), ?_⟩
    try dsimp only [cxOf, Cx.nox, Cx.wish]
    rw [show L2.start ["thing", "gate", "names"] [v] = [some v, none, none] from rfl]
    have no : good t = false → Q (.bl false) H := fun c => by rw [← c]; exact q H (Same.refl H)
    repeat walk_at "vc"
    refine ⟨_, _, _, _, rfl, it.ty, kit_tup _, ?_⟩
    cases ct : t.isTup
    · refine ⟨_, rfl, iteT ?_⟩
      repeat walk_at "vc"
      exact no (good_nopair (by cases t <;> first | rfl | cases ct))
    cases it with
    | @tup n a us ts nown ha hle hz hi =>
      refine ⟨_, rfl, iteF ?_⟩
      repeat walk_at "vc"
      refine ⟨a, _, rfl, .inr (SqT.of ha), ?_⟩
      repeat walk_at "vc"
      rw [show decide (V.int ↑us.length = V.int 2) = decide (ts.length = 2) by rw [show decide (V.int ↑us.length = V.int 2) = decide (us.length = 2) from ints_eq (m := 2), hle]]
      by_cases c2 : ts.length = 2
      · obtain ⟨t0, t1, rfl⟩ := len_two c2
        obtain ⟨u0, u1, rfl⟩ := len_two (show us.length = 2 by rw [hle]; rfl)
        have i0 := hi 0 u0 t0 rfl rfl
        have i1 := hi 1 u1 t1 rfl rfl
        refine ifF (by rw [decide_eq_true c2]; rfl) ?_
        repeat walk_at "vc"
        refine ⟨_, _, _, _, rfl, i0.ty, kit_lst _, ?_⟩
        cases i0 with
        | @lst m li xs is nown hi' hil hiz hii =>
          refine ⟨_, rfl, iteF ?_⟩
          repeat walk_at "vc"
          refine ⟨_, _, _, _, rfl, i1.ty, kit_lst _, ?_⟩
          cases i1 with
          | @lst m lg ys gs nown2 hg hgl hgz hgi =>
            have ai : All2 D H m xs is := ⟨hil, hii⟩
            have ag : All2 D H m ys gs := ⟨hgl, hgi⟩
            refine ⟨_, rfl, iteF ?_⟩
            repeat walk_at "vc"
            have q : ∀ H', Same H H' → Q (.bl (decide (is.length ≤ 4) && (decide (1 ≤ gs.length) && (decide (gs.length ≤ 7) && (gs.all isPair && ((is ++ gs.map nmOf).all nameG && (decide ((is ++ gs.map nmOf).map strOf).Nodup && gs.all fun g => ruleG ((is ++ gs.map nmOf).map strOf) 10 (rlOf g)))))))) H' := q
            clear no hi
            by_cases c1 : is.length ≤ 4
            · rw [decide_eq_true c1, Bool.true_and] at q
              refine ifF (decide_eq_false (by omega)) ?_
              repeat walk_at "vc"
              refine i_chain ?_
              repeat walk_at "vc"
              by_cases c2 : 1 ≤ gs.length
              · rw [decide_eq_true c2, Bool.true_and] at q
                refine ifT (decide_eq_true (by omega)) ?_
                repeat walk_at "vc"
                by_cases c3 : gs.length ≤ 7
                · rw [decide_eq_true c3, Bool.true_and] at q
                  refine ifF (by rw [decide_eq_true (show (ys.length : Int) < 8 by omega)]; rfl) ?_
                  repeat walk_at "vc"
                  refine ⟨lg, rfl, ⟨_, SqL.of hg⟩, ?_⟩
                  refine for_list (xs := ys) (fun k σ H' => H' = H ∧ (∃ x1, σ = [some (.ref a), x1, none]) ∧ (gs.take k).all isPair = true) ⟨rfl, ⟨_, rfl⟩, rfl⟩ (fun k σ H' _ p => by rw [p.1]; exact SqL.of hg) (fun k x σ H' e p => ?_) (fun σ Hx p => ?_)
                  · obtain ⟨rfl, ⟨x1, rfl⟩, pk⟩ := p
                    obtain ⟨g, eg, ig⟩ := ag.get e
                    refine s_name ?_
                    repeat walk_at "vc"
                    refine ⟨_, _, _, _, rfl, ig.ty, kit_tup _, ?_⟩
                    cases cg : isPair g
                    · have hf : gs.all isPair = false := by
                        cases h : gs.all isPair
                        · rfl
                        · rw [all_at h eg] at cg; cases cg
                      rw [hf, Bool.false_and] at q
                      cases ig with
                      | @tup n b vs us' no' hb hl' hz' hi'' =>
                        refine ⟨_, rfl, iteF ?_⟩
                        repeat walk_at "vc"
                        refine ⟨b, _, rfl, .inr (SqT.of hb), ?_⟩
                        repeat walk_at "vc"
                        refine ifT ?_ ?_
                        · rw [show decide (V.int ↑vs.length = V.int 2) = decide (vs.length = 2) from ints_eq (m := 2), hl', show decide (us'.length = 2) = false from cg]; rfl
                        repeat walk_at "vc"
                        exact q _ (Same.refl _)
                      | _ =>
                        refine ⟨_, rfl, iteT ?_⟩
                        repeat walk_at "vc"
                        exact q _ (Same.refl _)
                    · obtain ⟨b, w0, w1, m', rfl, hb, _, _, _⟩ := pair_at ig cg
                      obtain ⟨g0, g1, rfl⟩ := pair_open cg
                      refine ⟨_, rfl, iteF ?_⟩
                      repeat walk_at "vc"
                      refine ⟨b, _, rfl, .inr (SqT.of hb), ?_⟩
                      repeat walk_at "vc"
                      refine ifF (by first | rfl | simp) ?_
                      refine s_next ⟨rfl, ⟨_, rfl⟩, ?_⟩
                      rw [take_all_succ eg, pk, cg]; rfl
                  · obtain ⟨rfl, ⟨x1, rfl⟩, pk⟩ := p
                    rw [take_all' _ _ hgl] at pk
                    rw [pk, Bool.true_and] at q
                    repeat walk_at "vc"
                    refine i_comp (s_list ?_)
                    repeat walk_at "vc"
                    refine ⟨lg, rfl, ⟨_, SqL.of hg⟩, fun L hL => ?_⟩
                    refine comp_list (xs := ys) (fun k H' zs => Same H' H' ∧ Same Hx H' ∧ H' L = some (.lst zs) ∧ zs.length = k ∧ All2 D Hx m zs ((gs.map nmOf).take k)) ⟨Same.refl _, fresh_same hL, upd_same, rfl, All2.nil⟩ (fun k H' ys p => ⟨p.2.2.1, SqL.of (p.2.1 _ _ hg)⟩) (fun k x H2 zs e p => ?_) (fun H2 zs p => ?_)
                    · obtain ⟨_, Sm, hd, zl, az⟩ := p
                      have hm : k < ys.length := (List.getElem?_eq_some_iff.mp e).1
                      obtain ⟨g, eg, ig⟩ := ag.get e
                      obtain ⟨b, w0, w1, m', rfl, hb, rfl, i1, _⟩ := pair_at ig (all_at pk eg)
                      have hb' := Sm _ _ hb
                      refine s_name ⟨trivial, i_yes (iteT ?_)⟩
                      repeat walk_at "vc"
                      refine NextC.mk hd hm (by omega) ⟨Same.refl _, same_upd Sm hL, upd_same, by simp [zl], ?_⟩
                      exact az.snoc (fun _ _ e _ => e) (by rw [List.getElem?_map, eg]; rfl) (i1.up (by omega))
                    · obtain ⟨_, Sm, hd, zl, az⟩ := p
                      rw [List.take_of_length_le (by rw [List.length_map]; omega)] at az
                      have lz := az.1
                      rw [List.length_map] at lz
                      refine i_cat (Sm _ _ hi') hd (by omega) fun p hp => ?_
                      generalize hE : upd H2 p _ = H3
                      obtain ⟨S3, q3⟩ := upd_pair hp hE
                      clear hE
                      have S03 := Sm.trans S3
                      have az2 := (ai.app az).same (.of S03)
                      have few : (xs ++ zs).length ≤ 200 := by rw [List.length_append]; omega
                      have hg3 := S03 _ _ hg
                      generalize is ++ gs.map nmOf = nms at *
                      generalize xs ++ zs = vs at *
                      repeat walk_at "vc"
                      refine i_comp (s_list ?_)
                      repeat walk_at "vc"
                      refine ⟨p, rfl, ⟨_, SqL.of q3⟩, fun L2 hL2 => ?_⟩
                      refine comp_bad (us := nms) (f := nameG) q3 hL2 az2.1 few (fun x => trivial) ⟨_, _, rfl⟩ (fun i x u H' R e1 e2 S' kR => ?_) (fun H4 ys4 S4 h4 em4 => ?_)
                      · repeat walk_at "vc"
                        exact ⟨D, m, x, u, rfl, (az2.2 i x u e1 e2).keep (.of S'), fun H'' S'' => ⟨_, rfl, kR H'' S''⟩⟩
                      repeat walk_at "vc"
                      refine ⟨by decide, fun p5 hp5 => ?_⟩
                      generalize hE : upd H4 p5 _ = H5
                      obtain ⟨S5, q5⟩ := upd_pair hp5 hE
                      clear hE
                      have S35 := S4.trans S5
                      refine ⟨L2, p5, ys4, [], fun _ => true, rfl, rfl, SqL.of (S5 _ _ h4), SqL.of q5, (fun j x y _ h => by simp at h), ⟨_, rfl, ?_⟩⟩
                      rw [show (if true = true then !(ys4.length == ([] : List V).length && (List.range ys4.length).all fun _ => true) else (ys4.length == ([] : List V).length && (List.range ys4.length).all fun _ => true)) = !ys4.isEmpty from ne_nil_v, em4]
                      cases c5 : nms.all nameG
                      · rw [c5, Bool.false_and] at q
                        refine iteT ?_
                        repeat walk_at "vc"
                        exact q H5 (S03.trans S35)
                      rw [c5, Bool.true_and] at q
                      refine iteF ?_
                      have ez := names_str c5 az2.1 az2.2
                      have lws : (nms.map strOf).length ≤ 200 := by rw [List.length_map, ← az2.1]; exact few
                      have hp5' := S35 _ _ q3
                      rw [ez] at hp5'
                      repeat walk_at "vc"
                      refine i_comp (s_list ?_)
                      repeat walk_at "vc"
                      refine ⟨p, rfl, ⟨_, SqL.of hp5'⟩, fun L6 hL6 => ?_⟩
                      refine comp_bad (us := (nms.map strOf).map Tr.str) (f := fun u => !decide ((1 : Int) < ((nms.map strOf).count (strOf u) : Nat))) hp5' hL6 (by simp) (by rw [List.length_map]; exact lws) (fun x => ⟨rfl, trivial⟩) ⟨_, _, rfl⟩ (fun i x u H' R e1 e2 S' kR => ?_) (fun H6 ys6 S6 h6 em6 => ?_)
                      · have hpp := S' _ _ hp5'
                        rw [List.getElem?_map] at e1 e2
                        cases ei : (nms.map strOf)[i]? with
                        | none => rw [ei] at e1; cases e1
                        | some y =>
                          rw [ei] at e1 e2
                          cases e1
                          cases e2
                          repeat walk_at "vc"
                          refine ⟨p, nms.map strOf, y, rfl, rfl, hpp, ?_⟩
                          repeat walk_at "vc"
                          have z := kR H' (Same.refl H')
                          rw [Bool.not_not] at z
                          exact z
                      repeat walk_at "vc"
                      refine ⟨by decide, fun p7 hp7 => ?_⟩
                      generalize hE : upd H6 p7 _ = H7
                      obtain ⟨S7, q7⟩ := upd_pair hp7 hE
                      clear hE
                      have S57 := S6.trans S7
                      refine ⟨L6, p7, ys6, [], fun _ => true, rfl, rfl, SqL.of (S7 _ _ h6), SqL.of q7, (fun j x y _ h => by simp at h), ⟨_, rfl, ?_⟩⟩
                      rw [show (if true = true then !(ys6.length == ([] : List V).length && (List.range ys6.length).all fun _ => true) else (ys6.length == ([] : List V).length && (List.range ys6.length).all fun _ => true)) = !ys6.isEmpty from ne_nil_v, em6]
                      have ec : (((nms.map strOf).map Tr.str).all fun u => !decide ((1 : Int) < ((nms.map strOf).count (strOf u) : Nat))) = decide (nms.map strOf).Nodup := by
                        rw [← count_nodup, List.all_map]; rfl
                      rw [ec]
                      have S07 := S03.trans (S35.trans S57)
                      by_cases c6 : (nms.map strOf).Nodup
                      · rw [decide_eq_true c6, Bool.true_and] at q
                        refine ifF (by rw [decide_eq_true c6]; rfl) ?_
                        have hg7 := S07 _ _ hg
                        have hp7' := S57 _ _ hp5'
                        repeat walk_at "vc"
                        refine i_comp (s_list ?_)
                        have ha7 := S07 _ _ ha
                        repeat walk_at "vc"
                        refine ⟨lg, rfl, ⟨_, SqL.of hg7⟩, fun L8 hL8 => ?_⟩
                        refine comp_bad (us := gs) (f := fun g => ruleG (nms.map strOf) 10 (rlOf g)) hg7 hL8 hgl (by omega) (fun x => ⟨rfl, trivial⟩) ⟨_, _, rfl⟩ (fun i x u H' R e1 e2 S' kR => ?_) (fun H8 ys8 S8 h8 em8 => ?_)
                        · have S0' := S07.trans S'
                          obtain ⟨b, w0, w1, m', rfl, hb, _, _, iv⟩ := pair_at (ag.2 i x u e1 e2) (all_at pk e2)
                          have hb' := S0' _ _ hb
                          repeat walk_at "vc"
                          exact ⟨D, m', w1, rlOf u, p, nms.map strOf, 10, rfl, by omega, by omega, iv.keep (.of S0'), S' _ _ hp7', lws, fun H'' S'' => ⟨_, rfl, kR H'' S''⟩⟩
                        repeat walk_at "vc"
                        refine ⟨by decide, fun p9 hp9 => ?_⟩
                        generalize hE : upd H8 p9 _ = H9
                        obtain ⟨S9, q9⟩ := upd_pair hp9 hE
                        clear hE
                        refine ⟨L8, p9, ys8, [], fun _ => true, rfl, rfl, SqL.of (S9 _ _ h8), SqL.of q9, (fun j x y _ h => by simp at h), ?_⟩
                        rw [show (if false = true then !(ys8.length == ([] : List V).length && (List.range ys8.length).all fun _ => true) else (ys8.length == ([] : List V).length && (List.range ys8.length).all fun _ => true)) = ys8.isEmpty from eq_nil_v, em8]
                        exact q H9 (S07.trans (S8.trans S9))
                      · rw [decide_eq_false c6, Bool.false_and] at q
                        refine ifT (by rw [decide_eq_false c6]; rfl) ?_
                        repeat walk_at "vc"
                        exact q H7 S07
                · rw [decide_eq_false c3, Bool.false_and] at q
                  refine ifT (by rw [decide_eq_false (show ¬ (ys.length : Int) < 8 by omega)]; rfl) ?_
                  repeat walk_at "vc"
                  exact q H (Same.refl H)
              · rw [decide_eq_false c2, Bool.false_and] at q
                refine ifF (decide_eq_false (by omega)) ?_
                repeat walk_at "vc"
                exact q H (Same.refl H)
            · rw [decide_eq_false c1, Bool.false_and] at q
              refine ifT (decide_eq_true (by omega)) ?_
              repeat walk_at "vc"
              exact q H (Same.refl H)
          | _ =>
            refine ⟨_, rfl, iteT ?_⟩
            repeat walk_at "vc"
            exact no rfl
        | _ =>
          refine ⟨_, rfl, iteT ?_⟩
          repeat walk_at "vc"
          exact no rfl
      · refine ifT (by rw [decide_eq_false c2]; rfl) ?_
        repeat walk_at "vc"
        exact no (good_nopair (decide_eq_false c2))
    | _ => cases ct
end
set_option Elab.async false
set_option linter.all false
set_option maxRecDepth 100000
set_option maxHeartbeats 4000000



theorem se_dict {a : List (Option Expr)} {b : List Expr} {p : Pos} {es : List Expr} {env : Env} : starEach (.Dict a b p :: es) env = (false, eval (.Dict a b p) env) :: starEach es env := by rfl
structure OL (D : Dk) (O : Addr → Prop) (H : Hp) : Prop where
  sub : ∀ b, D.own b → O b
  lst : ∀ b, O b → ∃ xs, H b = some (.lst xs)
theorem OL.al {D : Dk} {O : Addr → Prop} {H : Hp} (o : OL D O H) : Al O H := fun b e z => by obtain ⟨xs, h⟩ := o.lst b z; rw [e] at h; cases h
theorem OL.tup {D : Dk} {O : Addr → Prop} {H : Hp} (o : OL D O H) {b : Addr} {xs : List V} (e : H b = some (.tup xs)) : ¬ O b := fun z => by obtain ⟨ys, h⟩ := o.lst b z; rw [e] at h; cases h
theorem OL.same {D : Dk} {O : Addr → Prop} {H H' : Hp} (o : OL D O H) (S : Same H H') : OL D O H' := ⟨o.sub, fun b z => let ⟨xs, h⟩ := o.lst b z; ⟨xs, S _ _ h⟩⟩
theorem Dk.At.ol {D : Dk} {H : Hp} (h : D.At H) : OL D D.own H := ⟨fun _ z => z, fun b z => by
  rcases z with z | z
  · obtain ⟨n, e⟩ := h.hd; rw [z]; exact ⟨_, e⟩
  · obtain ⟨a, b', c, e⟩ := h.pools b z; exact ⟨_, e⟩⟩
theorem OL.kp {D : Dk} {O : Addr → Prop} {H H' : Hp} (o : OL D O H) (k : Kp D H H') : OL D O H' := ⟨o.sub, fun b z => by
  by_cases c : D.own b
  · exact k.dk.ol.lst b c
  · obtain ⟨xs, h⟩ := o.lst b z; exact ⟨xs, k.old _ _ h c⟩⟩
theorem Kp.keepO {D : Dk} {O : Addr → Prop} {H H' : Hp} (k : Kp D H H') (sub : ∀ b, D.own b → O b) : KeepD O H H' := fun b o e no => k.old b o e fun z => no (sub b z)
noncomputable def Mk (D : Addr → Prop) (H0 : Hp) (σ : St) (n : Nat) (te : TE) : Prop := ∀ H (Q : VK), Same H0 H → (∀ u t H', Same H H' → Is D H' n u t → Q u H') → te σ H Q
noncomputable def MkA (D : Addr → Prop) (H0 : Hp) (σ : St) (n k : Nat) (ta : TA) : Prop := ∀ H (R : List V → Hp → Prop), Same H0 H → (∀ xs ts H', Same H H' → All2 D H' n xs ts → xs.length = k → R xs H') → ta σ H R
noncomputable def MkB (D : Addr → Prop) (H0 : Hp) (σ : St) (n k : Nat) (ta : TA) : Prop := ∀ H (R : List V → Hp → Prop), Same H0 H → (∀ xs ts H', Same H H' → All2 D H' n xs ts → xs.length ≤ k → R xs H') → ta σ H R
section
variable {D : Addr → Prop} {H0 : Hp} {σ : St} {n k : Nat} {te : TE} {ta : TA}
theorem mk_non : Mk D H0 σ n (tC .non) := fun H Q _ q => i_c (q _ _ H (Same.refl H) .non)
theorem mk_int {i : Int} : Mk D H0 σ n (tC (.int i)) := fun H Q _ q => i_c (q _ _ H (Same.refl H) .int)
theorem mk_bl {b : Bool} : Mk D H0 σ n (tC (.bl b)) := fun H Q _ q => i_c (q _ _ H (Same.refl H) .bl)
theorem mk_str {z : Str} (h : z.length ≤ 1000) : Mk D H0 σ n (tC (.str z)) := fun H Q _ q => i_c (q _ _ H (Same.refl H) (.str h))
theorem mk_var {i m : Nat} {v : V} {t : Tr} (e : σ[i]? = some (some v)) (h : Is D H0 m v t) (hm : m ≤ n) : Mk D H0 σ n (tVar i) := fun H Q S q => i_var e (q v t H (Same.refl H) ((h.keep (.of S)).up hm))
theorem mk_dct (DA : Al D H0) : Mk D H0 σ n tDNewK := fun H Q S q => fun p hp => q (.ref p) .dct _ (fresh_same hp) (.dct (DA.same S _ hp) upd_same)
theorem mk_tup (DA : Al D H0) (h : MkB D H0 σ n 5 ta) : Mk D H0 σ (n + 1) (tTup ta) := fun H Q S q => by
  have big : 1000 < sizeLine := by decide
  refine i_tup (h H _ S fun xs ts H' S' al hl => ⟨by omega, fun p hp => ?_⟩)
  exact q (.ref p) (.tup ts) _ (S'.trans (fresh_same hp)) (.tup (DA.same (S.trans S') _ hp) upd_same al.1 (by omega) fun j x t e1 e2 => (al.2 j x t e1 e2).keep (.of (fresh_same hp)))
theorem mk_lst (DA : Al D H0) (h : MkB D H0 σ n 5 ta) : Mk D H0 σ (n + 1) (tLst ta) := fun H Q S q => by
  have big : 1000 < sizeLine := by decide
  refine i_lst (h H _ S fun xs ts H' S' al hl => ⟨by omega, fun p hp => ?_⟩)
  exact q (.ref p) (.lst ts) _ (S'.trans (fresh_same hp)) (.lst (DA.same (S.trans S') _ hp) upd_same al.1 (by omega) fun j x t e1 e2 => (al.2 j x t e1 e2).keep (.of (fresh_same hp)))
theorem mka_nil : MkA D H0 σ n 0 tNil := fun H R _ q => i_nil (q [] [] H (Same.refl H) All2.nil rfl)
theorem mka_cons (h : Mk D H0 σ n te) (g : MkA D H0 σ n k ta) : MkA D H0 σ n (k + 1) (tCons te ta) := fun H R S q => by
  refine i_cons (h H _ S fun u t H1 S1 iu => g H1 _ (S.trans S1) fun xs ts H2 S2 al hl => ?_)
  refine q (u :: xs) (t :: ts) H2 (S1.trans S2) ⟨by simp [al.1], fun j x t' e1 e2 => ?_⟩ (by simp [hl])
  cases j with
  | zero => cases e1; cases e2; exact iu.keep (.of S2)
  | succ j => exact al.2 j x t' (by simpa using e1) (by simpa using e2)
theorem mkb_nil : MkB D H0 σ n k tNil := fun H R _ q => i_nil (q [] [] H (Same.refl H) All2.nil (Nat.zero_le _))
theorem mkb_cons (h : Mk D H0 σ n te) (g : MkB D H0 σ n k ta) : MkB D H0 σ n (k + 1) (tCons te ta) := fun H R S q => by
  refine i_cons (h H _ S fun u t H1 S1 iu => g H1 _ (S.trans S1) fun xs ts H2 S2 al hl => ?_)
  refine q (u :: xs) (t :: ts) H2 (S1.trans S2) ⟨by simp [al.1], fun j x t' e1 e2 => ?_⟩ (by simp; omega)
  cases j with
  | zero => cases e1; cases e2; exact iu.keep (.of S2)
  | succ j => exact al.2 j x t' (by simpa using e1) (by simpa using e2)
end
theorem all2_at {D : Addr → Prop} {H : Hp} {n : Nat} {xs : List V} {ts : List Tr} {r : Int} (al : All2 D H n xs ts) (h0 : 0 ≤ r) (h1 : r < xs.length) : ∃ x t, atI xs r = some x ∧ Is D H n x t := by
  have hr : r.toNat < xs.length := by omega
  have e : xs[r.toNat]? = some xs[r.toNat] := List.getElem?_eq_getElem hr
  obtain ⟨t, _, it⟩ := al.get e
  refine ⟨_, t, ?_, it⟩
  have q := atI_nat (xs := xs) (j := r.toNat) e
  rw [show ((r.toNat : Nat) : Int) = r by omega] at q
  exact q
noncomputable def spOdd : Sp := fun vs H Q _ => ∃ (D : Dk) (O : Addr → Prop) (n : Nat) (v : V) (t : Tr), vs = [.ref D.d, v] ∧ D.At H ∧ OL D O H ∧ Is O H n v t ∧ ∀ u t' H', Kp D H H' → Is O H' (n + 3) u t' → Q u H'
section
variable {P : Program} {w : World} {K : PySem.W.Frag} {mg : Str → Option Value} {base : Heap} {TT : Addr}
theorem sc_law_odd : FnScope ["deck", "thing", "some"] ["deck", "thing"] (defScope (top 26)) := ⟨rfl, rfl, rfl, by decide +kernel, rfl, by decide +kernel, by decide +kernel⟩
theorem ok_odd {f : Addr} {fd : FuncData} (Fu : Fun K "_law_odd" "_law_odd" (top 26) f fd) (T : Txt K mg TT) (f_law_draw : Fn P w K mg base "_law_draw" ["deck", "many"] 1 spDraw) : FnOk P w K mg base CX0 2 f fd ["deck", "thing"] spOdd := by
  have S := sc_law_odd
  refine Fu.ok S (fun vs H Q E h => ?_) (fun cdv A outer s H vs Q E hr h => ?_)
  · obtain ⟨D, O, n, v, t, rfl, _⟩ := h
    rfl
  · obtain ⟨D, O, n, v, t, rfl, DA, oa, it, q⟩ := h
    have big : 1000 < sizeLine := by decide
    refine' ⟨?_, ?bb, ?_⟩
    case bb =>
      refine' pss_cons ?s1 ?r1
      case s1 =>
        refine' ps_set (i := 2) ?n ?r ?l ?e ?s ?f
        case n => exact S.nd
        case r => rfl
        case l => first | exact Or.inl rfl | exact Or.inr rfl
        case s => rfl
        case f => first | exact Or.inl rfl | exact Or.inr rfl
        case e =>
          with_reducible refine' pe_lst ?a3
          case a3 =>
            with_reducible refine' pa_cons ?e4 ?s4 se_con
            case e4 =>
              exact pe_non
            case s4 =>
              with_reducible refine' pa_cons ?e6 ?s6 se_con
              case e6 =>
                exact pe_int
              case s6 =>
                with_reducible refine' pa_cons ?e8 ?s8 se_con
                case e8 =>
                  exact pe_bl
                case s8 =>
                  with_reducible refine' pa_cons ?e10 ?s10 se_con
                  case e10 =>
                    exact pe_str
                  case s10 =>
                    with_reducible refine' pa_cons ?e12 ?s12 se_con
                    case e12 =>
                      exact pe_str
                    case s12 =>
                      with_reducible refine' pa_cons ?e14 ?s14 se_con
                      case e14 =>
                        exact pe_str
                      case s14 =>
                        with_reducible refine' pa_cons ?e16 ?s16 se_con
                        case e16 =>
                          exact pe_str
                        case s16 =>
                          with_reducible refine' pa_cons ?e18 ?s18 se_con
                          case e18 =>
                            exact pe_str
                          case s18 =>
                            with_reducible refine' pa_cons ?e20 ?s20 se_con
                            case e20 =>
                              exact pe_str
                            case s20 =>
                              with_reducible refine' pa_cons ?e22 ?s22 se_lst
                              case e22 =>
                                with_reducible refine' pe_lst ?a23
                                case a23 =>
                                  exact pa_nil
                              case s22 =>
                                with_reducible refine' pa_cons ?e24 ?s24 se_tup
                                case e24 =>
                                  with_reducible refine' pe_tup ?a25
                                  case a25 =>
                                    exact pa_nil
                                case s24 =>
                                  with_reducible refine' pa_cons ?e26 ?s26 se_dict
                                  case e26 =>
                                    exact pe_dnewK
                                  case s26 =>
                                    with_reducible refine' pa_cons ?e28 ?s28 se_lst
                                    case e28 =>
                                      with_reducible refine' pe_lst ?a29
                                      case a29 =>
                                        with_reducible refine' pa_cons ?e30 ?s30 se_name
                                        case e30 =>
                                          exact (pv 1)
                                        case s30 =>
                                          exact pa_nil
                                    case s28 =>
                                      with_reducible refine' pa_cons ?e32 ?s32 se_tup
                                      case e32 =>
                                        with_reducible refine' pe_tup ?a33
                                        case a33 =>
                                          with_reducible refine' pa_cons ?e34 ?s34 se_name
                                          case e34 =>
                                            exact (pv 1)
                                          case s34 =>
                                            exact pa_nil
                                      case s32 =>
                                        exact pa_nil
      case r1 =>
        with_reducible refine' pss_cons ?s36 ?r36
        case s36 =>
          refine' ps_set (i := 2) ?n ?r ?l ?e ?s ?f
          case n => exact S.nd
          case r => rfl
          case l => first | exact Or.inl rfl | exact Or.inr rfl
          case s => rfl
          case f => first | exact Or.inl rfl | exact Or.inr rfl
          case e =>
            with_reducible refine' pe_op op_cat ?l38 ?q38
            case l38 =>
              exact (pv 2)
            case q38 =>
              with_reducible refine' pe_lst ?a40
              case a40 =>
                with_reducible refine' pa_cons ?e41 ?s41 se_tup
                case e41 =>
                  with_reducible refine' pe_tup ?a42
                  case a42 =>
                    with_reducible refine' pa_cons ?e43 ?s43 se_con
                    case e43 =>
                      exact pe_str
                    case s43 =>
                      exact pa_nil
                case s41 =>
                  with_reducible refine' pa_cons ?e45 ?s45 se_tup
                  case e45 =>
                    with_reducible refine' pe_tup ?a46
                    case a46 =>
                      with_reducible refine' pa_cons ?e47 ?s47 se_con
                      case e47 =>
                        exact pe_str
                      case s47 =>
                        with_reducible refine' pa_cons ?e49 ?s49 se_con
                        case e49 =>
                          exact pe_str
                        case s49 =>
                          exact pa_nil
                  case s45 =>
                    exact pa_nil
        case r36 =>
          with_reducible refine' pss_cons ?s51 ?r51
          case s51 =>
            refine' ps_set (i := 2) ?n ?r ?l ?e ?s ?f
            case n => exact S.nd
            case r => rfl
            case l => first | exact Or.inl rfl | exact Or.inr rfl
            case s => rfl
            case f => first | exact Or.inl rfl | exact Or.inr rfl
            case e =>
              with_reducible refine' pe_op op_cat ?l53 ?q53
              case l53 =>
                exact (pv 2)
              case q53 =>
                with_reducible refine' pe_lst ?a55
                case a55 =>
                  with_reducible refine' pa_cons ?e56 ?s56 se_tup
                  case e56 =>
                    with_reducible refine' pe_tup ?a57
                    case a57 =>
                      with_reducible refine' pa_cons ?e58 ?s58 se_con
                      case e58 =>
                        exact pe_str
                      case s58 =>
                        with_reducible refine' pa_cons ?e60 ?s60 se_name
                        case e60 =>
                          exact (pv 1)
                        case s60 =>
                          exact pa_nil
                  case s56 =>
                    with_reducible refine' pa_cons ?e62 ?s62 se_tup
                    case e62 =>
                      with_reducible refine' pe_tup ?a63
                      case a63 =>
                        with_reducible refine' pa_cons ?e64 ?s64 se_con
                        case e64 =>
                          exact pe_str
                        case s64 =>
                          with_reducible refine' pa_cons ?e66 ?s66 se_name
                          case e66 =>
                            exact (pv 1)
                          case s66 =>
                            exact pa_nil
                    case s62 =>
                      with_reducible refine' pa_cons ?e68 ?s68 se_tup
                      case e68 =>
                        with_reducible refine' pe_tup ?a69
                        case a69 =>
                          with_reducible refine' pa_cons ?e70 ?s70 se_con
                          case e70 =>
                            exact pe_str
                          case s70 =>
                            with_reducible refine' pa_cons ?e72 ?s72 se_name
                            case e72 =>
                              exact (pv 1)
                            case s72 =>
                              with_reducible refine' pa_cons ?e74 ?s74 se_name
                              case e74 =>
                                exact (pv 1)
                              case s74 =>
                                exact pa_nil
                      case s68 =>
                        with_reducible refine' pa_cons ?e76 ?s76 se_tup
                        case e76 =>
                          with_reducible refine' pe_tup ?a77
                          case a77 =>
                            with_reducible refine' pa_cons ?e78 ?s78 se_con
                            case e78 =>
                              exact pe_str
                            case s78 =>
                              with_reducible refine' pa_cons ?e80 ?s80 se_con
                              case e80 =>
                                exact pe_non
                              case s80 =>
                                exact pa_nil
                        case s76 =>
                          exact pa_nil
          case r51 =>
            with_reducible refine' pss_cons ?s82 ?r82
            case s82 =>
              refine' ps_set (i := 2) ?n ?r ?l ?e ?s ?f
              case n => exact S.nd
              case r => rfl
              case l => first | exact Or.inl rfl | exact Or.inr rfl
              case s => rfl
              case f => first | exact Or.inl rfl | exact Or.inr rfl
              case e =>
                with_reducible refine' pe_op op_cat ?l84 ?q84
                case l84 =>
                  exact (pv 2)
                case q84 =>
                  with_reducible refine' pe_lst ?a86
                  case a86 =>
                    with_reducible refine' pa_cons ?e87 ?s87 se_tup
                    case e87 =>
                      with_reducible refine' pe_tup ?a88
                      case a88 =>
                        with_reducible refine' pa_cons ?e89 ?s89 se_con
                        case e89 =>
                          exact pe_str
                        case s89 =>
                          with_reducible refine' pa_cons ?e91 ?s91 se_name
                          case e91 =>
                            exact (pv 1)
                          case s91 =>
                            with_reducible refine' pa_cons ?e93 ?s93 se_name
                            case e93 =>
                              exact (pv 1)
                            case s93 =>
                              exact pa_nil
                    case s87 =>
                      with_reducible refine' pa_cons ?e95 ?s95 se_lst
                      case e95 =>
                        with_reducible refine' pe_lst ?a96
                        case a96 =>
                          with_reducible refine' pa_cons ?e97 ?s97 se_con
                          case e97 =>
                            exact pe_str
                          case s97 =>
                            with_reducible refine' pa_cons ?e99 ?s99 se_con
                            case e99 =>
                              exact pe_str
                            case s99 =>
                              exact pa_nil
                      case s95 =>
                        exact pa_nil
            case r82 =>
              with_reducible refine' pss_cons ?s101 ?r101
              case s101 =>
                refine' ps_set (i := 2) ?n ?r ?l ?e ?s ?f
                case n => exact S.nd
                case r => rfl
                case l => first | exact Or.inl rfl | exact Or.inr rfl
                case s => rfl
                case f => first | exact Or.inl rfl | exact Or.inr rfl
                case e =>
                  with_reducible refine' pe_op op_cat ?l103 ?q103
                  case l103 =>
                    exact (pv 2)
                  case q103 =>
                    with_reducible refine' pe_lst ?a105
                    case a105 =>
                      with_reducible refine' pa_cons ?e106 ?s106 se_tup
                      case e106 =>
                        with_reducible refine' pe_tup ?a107
                        case a107 =>
                          with_reducible refine' pa_cons ?e108 ?s108 se_con
                          case e108 =>
                            exact pe_str
                          case s108 =>
                            with_reducible refine' pa_cons ?e110 ?s110 se_name
                            case e110 =>
                              exact (pv 1)
                            case s110 =>
                              with_reducible refine' pa_cons ?e112 ?s112 se_name
                              case e112 =>
                                exact (pv 1)
                              case s112 =>
                                exact pa_nil
                      case s106 =>
                        with_reducible refine' pa_cons ?e114 ?s114 se_tup
                        case e114 =>
                          with_reducible refine' pe_tup ?a115
                          case a115 =>
                            with_reducible refine' pa_cons ?e116 ?s116 se_con
                            case e116 =>
                              exact pe_str
                            case s116 =>
                              with_reducible refine' pa_cons ?e118 ?s118 se_name
                              case e118 =>
                                exact (pv 1)
                              case s118 =>
                                with_reducible refine' pa_cons ?e120 ?s120 se_name
                                case e120 =>
                                  exact (pv 1)
                                case s120 =>
                                  with_reducible refine' pa_cons ?e122 ?s122 se_name
                                  case e122 =>
                                    exact (pv 1)
                                  case s122 =>
                                    exact pa_nil
                        case s114 =>
                          with_reducible refine' pa_cons ?e124 ?s124 se_tup
                          case e124 =>
                            with_reducible refine' pe_tup ?a125
                            case a125 =>
                              with_reducible refine' pa_cons ?e126 ?s126 se_con
                              case e126 =>
                                exact pe_non
                              case s126 =>
                                with_reducible refine' pa_cons ?e128 ?s128 se_name
                                case e128 =>
                                  exact (pv 1)
                                case s128 =>
                                  exact pa_nil
                          case s124 =>
                            with_reducible refine' pa_cons ?e130 ?s130 se_tup
                            case e130 =>
                              with_reducible refine' pe_tup ?a131
                              case a131 =>
                                with_reducible refine' pa_cons ?e132 ?s132 se_con
                                case e132 =>
                                  exact pe_str
                                case s132 =>
                                  with_reducible refine' pa_cons ?e134 ?s134 se_lst
                                  case e134 =>
                                    with_reducible refine' pe_lst ?a135
                                    case a135 =>
                                      with_reducible refine' pa_cons ?e136 ?s136 se_con
                                      case e136 =>
                                        exact pe_str
                                      case s136 =>
                                        exact pa_nil
                                  case s134 =>
                                    exact pa_nil
                            case s130 =>
                              exact pa_nil
              case r101 =>
                with_reducible refine' pss_cons ?s138 ?r138
                case s138 =>
                  refine' ps_set (i := 2) ?n ?r ?l ?e ?s ?f
                  case n => exact S.nd
                  case r => rfl
                  case l => first | exact Or.inl rfl | exact Or.inr rfl
                  case s => rfl
                  case f => first | exact Or.inl rfl | exact Or.inr rfl
                  case e =>
                    with_reducible refine' pe_op op_cat ?l140 ?q140
                    case l140 =>
                      exact (pv 2)
                    case q140 =>
                      with_reducible refine' pe_lst ?a142
                      case a142 =>
                        with_reducible refine' pa_cons ?e143 ?s143 se_tup
                        case e143 =>
                          with_reducible refine' pe_tup ?a144
                          case a144 =>
                            with_reducible refine' pa_cons ?e145 ?s145 se_con
                            case e145 =>
                              exact pe_str
                            case s145 =>
                              with_reducible refine' pa_cons ?e147 ?s147 se_con
                              case e147 =>
                                exact pe_str
                              case s147 =>
                                exact pa_nil
                        case s143 =>
                          with_reducible refine' pa_cons ?e149 ?s149 se_tup
                          case e149 =>
                            with_reducible refine' pe_tup ?a150
                            case a150 =>
                              with_reducible refine' pa_cons ?e151 ?s151 se_con
                              case e151 =>
                                exact pe_str
                              case s151 =>
                                with_reducible refine' pa_cons ?e153 ?s153 se_tup
                                case e153 =>
                                  with_reducible refine' pe_tup ?a154
                                  case a154 =>
                                    with_reducible refine' pa_cons ?e155 ?s155 se_con
                                    case e155 =>
                                      exact pe_str
                                    case s155 =>
                                      with_reducible refine' pa_cons ?e157 ?s157 se_con
                                      case e157 =>
                                        exact pe_str
                                      case s157 =>
                                        exact pa_nil
                                case s153 =>
                                  exact pa_nil
                          case s149 =>
                            with_reducible refine' pa_cons ?e159 ?s159 se_tup
                            case e159 =>
                              with_reducible refine' pe_tup ?a160
                              case a160 =>
                                with_reducible refine' pa_cons ?e161 ?s161 se_lst
                                case e161 =>
                                  with_reducible refine' pe_lst ?a162
                                  case a162 =>
                                    with_reducible refine' pa_cons ?e163 ?s163 se_con
                                    case e163 =>
                                      exact pe_str
                                    case s163 =>
                                      exact pa_nil
                                case s161 =>
                                  with_reducible refine' pa_cons ?e165 ?s165 se_name
                                  case e165 =>
                                    exact (pv 1)
                                  case s165 =>
                                    with_reducible refine' pa_cons ?e167 ?s167 se_name
                                    case e167 =>
                                      exact (pv 1)
                                    case s167 =>
                                      exact pa_nil
                            case s159 =>
                              with_reducible refine' pa_cons ?e169 ?s169 se_tup
                              case e169 =>
                                with_reducible refine' pe_tup ?a170
                                case a170 =>
                                  with_reducible refine' pa_cons ?e171 ?s171 se_dict
                                  case e171 =>
                                    exact pe_dnewK
                                  case s171 =>
                                    with_reducible refine' pa_cons ?e173 ?s173 se_name
                                    case e173 =>
                                      exact (pv 1)
                                    case s173 =>
                                      exact pa_nil
                              case s169 =>
                                exact pa_nil
                case r138 =>
                  with_reducible refine' pss_one ?s175
                  case s175 =>
                    exact (ps_ret (pe_ix ix_list (pv 2) (pe_fn f_law_draw (hr.mono (by first | decide | omega)) (by rfl) (pa_cons (pv 0) (pa_cons pe_int pa_nil se_con) se_name)) (fun _ _ => rfl)))
    try dsimp only [cxOf, Cx.nox, Cx.wish]
    rw [show L2.start ["deck", "thing", "some"] [V.ref D.d, v] = [some (.ref D.d), some v, none] from rfl]
    have add : ∀ (H1 : Hp) (p : Addr) (xs : List V) (ts : List Tr) (k : Nat) (ta : TA) (R : VK), D.At H1 → Same H H1 → H1 p = some (.lst xs) → All2 O H1 (n + 3) xs ts → xs.length + k ≤ 100 →
        MkA O H1 [some (.ref D.d), some v, some (.ref p)] (n + 3) k ta → (∀ p' xs' ts' H', ¬ D.own p' → Same H1 H' → H' p' = some (.lst xs') → All2 O H' (n + 3) xs' ts' → xs'.length = xs.length + k → R (.ref p') H') → tOp rCat (tVar 2) (tLst ta) [some (.ref D.d), some v, some (.ref p)] H1 R := fun H1 p xs ts k ta R DA1 S1 hp al few mk kR => by
      refine i_op (i_var rfl (i_lst (mk H1 _ (Same.refl H1) fun ys us H2 S2 al2 hl => ⟨by omega, fun l hl' => ?_⟩)))
      have S3 := S2.trans (fresh_same (o := .lst ys) hl')
      refine i_cat (S3 _ _ hp) upd_same (by omega) fun p' hp' => ?_
      have S4 := S3.trans (fresh_same (o := .lst (xs ++ ys)) hp')
      exact kR p' (xs ++ ys) (ts ++ us) _ (notOwn_fresh (DA1.same S3) hp') S4 upd_same (((al.same (.of S2)).app al2).same (.of ((fresh_same hl').trans (fresh_same hp')))) (by rw [List.length_append, hl])
    with_reducible refine s_seq ?_
    with_reducible refine s_asg ?_
    have init : ∀ (ta : TA) (R : VK), MkA O H [some (.ref D.d), some v, none] (n + 3) 14 ta → (∀ p xs ts H', Same H H' → H' p = some (.lst xs) → All2 O H' (n + 3) xs ts → xs.length = 14 → R (.ref p) H') → tLst ta [some (.ref D.d), some v, none] H R := fun ta R mk kR => by
      refine i_lst (mk H _ (Same.refl H) fun ys us H2 S2 al2 hl => ⟨by omega, fun l hl' => ?_⟩)
      exact kR l ys us _ (S2.trans (fresh_same hl')) upd_same (al2.same (.of (fresh_same hl'))) hl
    refine init _ _ (by (repeat' (first | exact mka_nil | exact mkb_nil | exact mk_non | exact mk_int | exact mk_bl | exact mk_str (by decide +kernel) | exact mk_dct oa.al | exact mk_var rfl it (by omega) | (with_reducible refine mka_cons ?_ ?_) | (with_reducible refine mkb_cons ?_ ?_) | (refine mk_tup oa.al ?_) | (refine mk_lst oa.al ?_)))) fun p xs ts H2 S02 q2 al2 hl => ?_
    refine s_name ?_
    with_reducible refine s_seq ?_
    with_reducible refine s_asg ?_
    refine add H2 p xs ts 2 _ _ (DA.same S02) S02 q2 al2 (by omega) (by (repeat' (first | exact mka_nil | exact mkb_nil | exact mk_non | exact mk_int | exact mk_bl | exact mk_str (by decide +kernel) | exact mk_dct (oa.same S02).al | exact mk_var rfl (it.keep (.of S02)) (by omega) | (with_reducible refine mka_cons ?_ ?_) | (with_reducible refine mkb_cons ?_ ?_) | (refine mk_tup (oa.same S02).al ?_) | (refine mk_lst (oa.same S02).al ?_)))) fun p xs' ts H3 no S3 q3 al3 hl3 => ?_
    have S03 := S02.trans S3
    refine s_name ?_
    with_reducible refine s_seq ?_
    with_reducible refine s_asg ?_
    refine add H3 p xs' ts 4 _ _ (DA.same S03) S03 q3 al3 (by omega) (by (repeat' (first | exact mka_nil | exact mkb_nil | exact mk_non | exact mk_int | exact mk_bl | exact mk_str (by decide +kernel) | exact mk_dct (oa.same S03).al | exact mk_var rfl (it.keep (.of S03)) (by omega) | (with_reducible refine mka_cons ?_ ?_) | (with_reducible refine mkb_cons ?_ ?_) | (refine mk_tup (oa.same S03).al ?_) | (refine mk_lst (oa.same S03).al ?_)))) fun p xs'' ts H4 no S4 q4 al4 hl4 => ?_
    have S04 := S03.trans S4
    refine s_name ?_
    with_reducible refine s_seq ?_
    with_reducible refine s_asg ?_
    refine add H4 p xs'' ts 2 _ _ (DA.same S04) S04 q4 al4 (by omega) (by (repeat' (first | exact mka_nil | exact mkb_nil | exact mk_non | exact mk_int | exact mk_bl | exact mk_str (by decide +kernel) | exact mk_dct (oa.same S04).al | exact mk_var rfl (it.keep (.of S04)) (by omega) | (with_reducible refine mka_cons ?_ ?_) | (with_reducible refine mkb_cons ?_ ?_) | (refine mk_tup (oa.same S04).al ?_) | (refine mk_lst (oa.same S04).al ?_)))) fun p xs3 ts H5 no S5 q5 al5 hl5 => ?_
    have S05 := S04.trans S5
    refine s_name ?_
    with_reducible refine s_seq ?_
    with_reducible refine s_asg ?_
    refine add H5 p xs3 ts 4 _ _ (DA.same S05) S05 q5 al5 (by omega) (by (repeat' (first | exact mka_nil | exact mkb_nil | exact mk_non | exact mk_int | exact mk_bl | exact mk_str (by decide +kernel) | exact mk_dct (oa.same S05).al | exact mk_var rfl (it.keep (.of S05)) (by omega) | (with_reducible refine mka_cons ?_ ?_) | (with_reducible refine mkb_cons ?_ ?_) | (refine mk_tup (oa.same S05).al ?_) | (refine mk_lst (oa.same S05).al ?_)))) fun p xs4 ts H6 no S6 q6 al6 hl6 => ?_
    have S06 := S05.trans S6
    refine s_name ?_
    with_reducible refine s_seq ?_
    with_reducible refine s_asg ?_
    refine add H6 p xs4 ts 4 _ _ (DA.same S06) S06 q6 al6 (by omega) (by (repeat' (first | exact mka_nil | exact mkb_nil | exact mk_non | exact mk_int | exact mk_bl | exact mk_str (by decide +kernel) | exact mk_dct (oa.same S06).al | exact mk_var rfl (it.keep (.of S06)) (by omega) | (with_reducible refine mka_cons ?_ ?_) | (with_reducible refine mkb_cons ?_ ?_) | (refine mk_tup (oa.same S06).al ?_) | (refine mk_lst (oa.same S06).al ?_)))) fun p xs5 ts H7 no S7 q7 al7 hl7 => ?_
    have S07 := S06.trans S7
    refine s_name ?_
    repeat walk_at "vc"
    refine ⟨D, 30, rfl, DA.same S07, by decide, by decide, fun r H8 r0 r30 k8 => ?_⟩
    have al8 := al7.same (k8.keepO oa.sub)
    obtain ⟨x, t', ex, ix⟩ := all2_at al8 r0 (by omega)
    refine i_ixL (SqL.of (k8.old _ _ q7 no)) ex ?_
    exact q x t' H8 ((Kp.of DA S07).trans k8) ix
end
set_option Elab.async false
set_option linter.all false
set_option maxRecDepth 100000
set_option maxHeartbeats 4000000


noncomputable def trR : Rl → Tr
  | .w n => .tup [.str "wire", .str n]
  | .no r => .tup [.str "not", trR r]
  | .an a b => .tup [.str "and", trR a, trR b]
  | .orr a b => .tup [.str "or", trR a, trR b]
noncomputable def Rl.sm : Rl → Prop
  | .w n => n.length ≤ 1000
  | .no r => r.sm
  | .an a b => a.sm ∧ b.sm
  | .orr a b => a.sm ∧ b.sm
noncomputable def kindK : Rl → Str
  | .w _ => "wire"
  | .no _ => "not"
  | .an _ _ => "and"
  | .orr _ _ => "or"
theorem All2.cons {D : Addr → Prop} {H : Hp} {n : Nat} {x : V} {t : Tr} {xs : List V} {ts : List Tr} (i : Is D H n x t) (a : All2 D H n xs ts) : All2 D H n (x :: xs) (t :: ts) := by
  refine ⟨by simp [a.1], fun j y u e1 e2 => ?_⟩
  cases j with
  | zero => cases e1; cases e2; exact i
  | succ j => exact a.2 j y u (by simpa using e1) (by simpa using e2)
theorem Is.ofT {D : Addr → Prop} {H : Hp} {n : Nat} {a : Addr} {xs : List V} {ts : List Tr} (no : ¬ D a) (e : H a = some (.tup xs)) (al : All2 D H n xs ts) (few : xs.length ≤ 100) : Is D H (n + 1) (.ref a) (.tup ts) := .tup no e al.1 few al.2
theorem Is.ofL {D : Addr → Prop} {H : Hp} {n : Nat} {a : Addr} {xs : List V} {ts : List Tr} (no : ¬ D a) (e : H a = some (.lst xs)) (al : All2 D H n xs ts) (few : xs.length ≤ 100) : Is D H (n + 1) (.ref a) (.lst ts) := .lst no e al.1 few al.2
theorem notOwnT {D : Dk} {H : Hp} (DA : D.At H) {b : Addr} {xs : List V} (h : H b = some (.tup xs)) : ¬ D.own b := notOwn DA h (fun _ z => nomatch z)
theorem All2.up {D : Addr → Prop} {H : Hp} {n m : Nat} {xs : List V} {ts : List Tr} (a : All2 D H n xs ts) (h : n ≤ m) : All2 D H m xs ts := ⟨a.1, fun j x t e1 e2 => (a.2 j x t e1 e2).up h⟩
theorem isK {D : Addr → Prop} {H : Hp} {n : Nat} (r : Rl) : Is D H n (.str (kindK r)) (.str (kindK r)) := .str (by
  cases r with
  | w n => show ("wire" : Str).length ≤ 1000; decide +kernel
  | no r => show ("not" : Str).length ≤ 1000; decide +kernel
  | an a b => show ("and" : Str).length ≤ 1000; decide +kernel
  | orr a b => show ("or" : Str).length ≤ 1000; decide +kernel)
theorem rl_is {D : Dk} {O : Addr → Prop} {H : Hp} (oa : OL D O H) {v : V} {r : Rl} (h : RAt H v r) : r.sm → Is O H r.dep v (trR r) := by
  induction h with
  | w e => exact fun s => Is.ofT (oa.tup e) e (.cons (.str (by decide +kernel)) (.cons (.str s) .nil)) (by simp)
  | no e _ ih => exact fun s => Is.ofT (oa.tup e) e (.cons (.str (by decide +kernel)) (.cons (ih s) .nil)) (by simp)
  | an e _ _ i1 i2 => exact fun s => Is.ofT (oa.tup e) e (.cons (.str (by decide +kernel)) (.cons ((i1 s.1).up (Nat.le_max_left _ _)) (.cons ((i2 s.2).up (Nat.le_max_right _ _)) .nil))) (by simp)
  | orr e _ _ i1 i2 => exact fun s => Is.ofT (oa.tup e) e (.cons (.str (by decide +kernel)) (.cons ((i1 s.1).up (Nat.le_max_left _ _)) (.cons ((i2 s.2).up (Nat.le_max_right _ _)) .nil))) (by simp)
theorem rl_parts {D : Dk} {O : Addr → Prop} {H : Hp} (oa : OL D O H) {v : V} {r : Rl} (h : RAt H v r) (s : r.sm) : ∃ b x as ts, v = .ref b ∧ H b = some (.tup (.str (kindK r) :: x :: as)) ∧ as.length ≤ 1 ∧ All2 O H (r.dep - 1) (.str (kindK r) :: x :: as) ts ∧
    (kindK r ≠ "wire" → ∀ y ∈ x :: as, ∃ r', RAt H y r' ∧ r'.dep + 1 ≤ r.dep ∧ r'.sm) := by
  cases h with
  | @w a n e => exact ⟨a, _, _, _, rfl, e, by simp, .cons (isK _) (.cons (.str s) .nil), fun h => absurd rfl h⟩
  | @no a u r e h1 =>
    refine ⟨a, _, _, _, rfl, e, by simp, .cons (isK _) (.cons ((rl_is oa h1 s).up (by simp [Rl.dep])) .nil), fun _ y hy => ?_⟩
    rw [List.mem_singleton.mp hy]
    exact ⟨r, h1, by simp [Rl.dep], s⟩
  | @an a u u' r1 r2 e h1 h2 =>
    refine ⟨a, _, _, _, rfl, e, by simp, .cons (isK _) (.cons ((rl_is oa h1 s.1).up (by simp only [Rl.dep]; omega)) (.cons ((rl_is oa h2 s.2).up (by simp only [Rl.dep]; omega)) .nil)), fun _ y hy => ?_⟩
    rcases List.mem_cons.mp hy with e | e
    · rw [e]; exact ⟨r1, h1, by simp only [Rl.dep]; omega, s.1⟩
    · rw [List.mem_singleton.mp e]; exact ⟨r2, h2, by simp only [Rl.dep]; omega, s.2⟩
  | @orr a u u' r1 r2 e h1 h2 =>
    refine ⟨a, _, _, _, rfl, e, by simp, .cons (isK _) (.cons ((rl_is oa h1 s.1).up (by simp only [Rl.dep]; omega)) (.cons ((rl_is oa h2 s.2).up (by simp only [Rl.dep]; omega)) .nil)), fun _ y hy => ?_⟩
    rcases List.mem_cons.mp hy with e | e
    · rw [e]; exact ⟨r1, h1, by simp only [Rl.dep]; omega, s.1⟩
    · rw [List.mem_singleton.mp e]; exact ⟨r2, h2, by simp only [Rl.dep]; omega, s.2⟩
theorem cutT (xs : List V) {j : Nat} (h : j ≤ xs.length) : cutV xs none (some (j : Int)) = xs.take j := by
  unfold cutV
  rw [HT.sIx_nat, HT.sIx_none]
  simp
  try omega
theorem cutF (xs : List V) {j : Nat} (h : j ≤ xs.length) : cutV xs (some (j : Int)) none = xs.drop j := by
  unfold cutV
  rw [HT.sIx_nat, HT.sIx_none, Nat.min_eq_left h]
  exact List.take_of_length_le (by rw [List.length_drop]; omega)
theorem All2.take {D : Addr → Prop} {H : Hp} {n : Nat} {xs : List V} {ts : List Tr} (a : All2 D H n xs ts) (j : Nat) : All2 D H n (xs.take j) (ts.take j) := by
  refine ⟨by rw [List.length_take, List.length_take, a.1], fun i x t e1 e2 => ?_⟩
  rw [List.getElem?_take] at e1 e2
  split at e1
  · rename_i c
    rw [if_pos c] at e2
    exact a.2 i x t e1 e2
  · cases e1
theorem All2.drop {D : Addr → Prop} {H : Hp} {n : Nat} {xs : List V} {ts : List Tr} (a : All2 D H n xs ts) (j : Nat) : All2 D H n (xs.drop j) (ts.drop j) := by
  refine ⟨by rw [List.length_drop, List.length_drop, a.1], fun i x t e1 e2 => ?_⟩
  rw [List.getElem?_drop] at e1 e2
  exact a.2 _ x t e1 e2
noncomputable def spBent (d : Nat) : Sp := fun vs H Q _ => ∃ (D : Dk) (O : Addr → Prop) (v : V) (r : Rl), vs = [.ref D.d, v] ∧ D.At H ∧ OL D O H ∧ RAt H v r ∧ r.dep ≤ d ∧ r.sm ∧ ∀ u t H', Kp D H H' → Is O H' (d + 4) u t → Q u H'
section
variable {P : Program} {w : World} {K : PySem.W.Frag} {mg : Str → Option Value} {base : Heap} {TT : Addr}
theorem sc_law_bent : FnScope ["deck", "rule", "at"] ["deck", "rule"] (defScope (top 27)) := ⟨rfl, rfl, rfl, by decide +kernel, rfl, by decide +kernel, by decide +kernel⟩
theorem ok_bent {f : Addr} {fd : FuncData} (Fu : Fun K "_law_bent" "_law_bent" (top 27) f fd) (T : Txt K mg TT) (f_law_draw : Fn P w K mg base "_law_draw" ["deck", "many"] 1 spDraw) (f_law_odd : Fn P w K mg base "_law_odd" ["deck", "thing"] 2 spOdd) (hm : mg "_law_bent" = some (.ref f)) (hk : PySem.W.keepIn K (.ref f) = true) (hb : Binds K fd ["deck", "rule"] []) : ∀ d, FnOk P w K mg base CX0 (d + 2) f fd ["deck", "rule"] (spBent d)
  | 0 => fnok_false fun vs H Q E ⟨D, O, v, r, _, _, _, _, h, _⟩ => by have := dep_pos r; omega
  | d + 1 => by
    have S := sc_law_bent
    have f_law_bent : Fn P w K mg base "_law_bent" ["deck", "rule"] (d + 2) (spBent d) := ⟨f, fd, ok_bent Fu T f_law_draw f_law_odd hm hk hb d, hm, hk, hb⟩
    refine Fu.ok S (fun vs H Q E h => ?_) (fun cdv A outer s H vs Q E hr h => ?_)
    · obtain ⟨D, O, v, r, rfl, _⟩ := h
      rfl
    · obtain ⟨D, O, v, r, rfl, DA, oa, ra, rd, rs, q⟩ := h
      have hu := hu_of hr
      have big : 1000 < sizeLine := by decide
      refine ⟨_, (pss_cons (ps_if (pt_cmpR op_eq (pe_fn f_law_draw (hr.mono (by first | decide | omega)) (by rfl) (pa_cons (pv 0) (pa_cons pe_int pa_nil))) pe_int (nomark _)) (pss_one (ps_ret (pe_op op_catT (pv 1) (pe_tup (pa_cons (pe_ix ix_tup (pv 1) (pe_un un_neg pe_int) (fun _ _ => rfl)) pa_nil))))) pss_nil)
      (pss_cons (ps_if (PW.pt (pw_or (pt_cmpR (op_eqTx hr.units) (pe_ix ix_tup (pv 1) pe_int (fun _ _ => rfl)) pe_str (nomark _)) (pw_or1 (pt_cmpR op_eq (pe_fn f_law_draw (hr.mono (by first | decide | omega)) (by rfl) (pa_cons (pv 0) (pa_cons pe_int pa_nil))) pe_int (nomark _))))) (pss_one (ps_ret (pe_fn f_law_odd (hr.mono (by first | decide | omega)) (by rfl) (pa_cons (pv 0) (pa_cons (pv 1) pa_nil))))) pss_nil)
      (pss_cons (ps_set (i := 2) S.nd rfl (by first | exact Or.inl rfl | exact Or.inr rfl) (pe_op op_add pe_int (pe_fn f_law_draw (hr.mono (by first | decide | omega)) (by rfl) (pa_cons (pv 0) (pa_cons (pe_op op_sub (pe_callB call_len_seq (by rfl) T.n_len PySem.boot_len (pa_cons (pv 1) pa_nil)) pe_int) pa_nil)))))
      (pss_one (ps_ret (pe_op op_catT (pe_op op_catT (pe_slice sl_tup (pv 1) po_none (po_some (pv 2))) (pe_tup (pa_cons (pe_fn f_law_bent (hr.mono (by first | decide | omega)) (by rfl) (pa_cons (pv 0) (pa_cons (pe_ix ix_tup (pv 1) (pv 2) (fun _ _ => rfl)) pa_nil))) pa_nil))) (pe_slice sl_tup (pv 1) (po_some (pe_op op_add (pv 2) pe_int)) po_none))))))), ?_⟩
      try dsimp only [cxOf, Cx.nox, Cx.wish]
      rw [show L2.start ["deck", "rule", "at"] [V.ref D.d, v] = [some (.ref D.d), some v, none] from rfl]
      have dp := dep_pos r
      repeat walk_at "vc"
      refine ⟨D, 6, rfl, DA, by decide, by decide, fun r1 H1 _ _ k1 => ?_⟩
      have ra1 := ra.mono (k1.tups DA)
      obtain ⟨b, x, as, ts, rfl, hb, a1, al, sub⟩ := rl_parts (oa.kp k1) ra1 rs
      repeat walk_at "vc"
      refine ite2 (fun _ => ?_) (fun _ => ?_)
      · repeat walk_at "vc"
        obtain ⟨y, ty, hy, iy⟩ : ∃ y ty, atI (V.str (kindK r) :: x :: as) (-1) = some y ∧ Is O H1 (r.dep - 1) y ty := by
          match as, a1 with
          | [], _ => obtain ⟨t', _, i'⟩ := al.get (j := 1) rfl; exact ⟨x, t', rfl, i'⟩
          | [z], _ => obtain ⟨t', _, i'⟩ := al.get (j := 2) rfl; exact ⟨z, t', rfl, i'⟩
        refine i_ixT hb hy ?_
        repeat walk_at "vc"
        refine ⟨by show 1 ≤ _; omega, fun p hp => ?_⟩
        generalize hE : upd H1 p _ = H2
        obtain ⟨S2, q2⟩ := upd_pair hp hE
        clear hE
        refine ⟨b, p, _, [y], rfl, rfl, SqT.of (S2 _ _ hb), SqT.of q2, by simp, by simp; omega, (fun h => by cases h), fun _ p3 hp3 => ?_⟩
        generalize hE : upd H2 p3 _ = H3
        obtain ⟨S3, q3⟩ := upd_pair hp3 hE
        clear hE
        have k3 := k1.trans (Kp.of k1.dk (S2.trans S3))
        refine q (.ref p3) _ H3 k3 ((Is.ofT (n := r.dep - 1) ((oa.kp k3).tup q3) q3 ((al.app (.cons iy .nil)).same (.of (S2.trans S3))) (by simp; omega)).up (by omega))
      · repeat walk_at "vc"
        refine i_ixT hb (atI_nat (j := 0) rfl) ?_
        repeat walk_at "vc"
        refine i_eqTx (isK (D := O) (n := 0) r) ?_
        have odd : ∀ H2, Kp D H1 H2 → tRet (tCall spOdd [] E0 (tCons (tVar 0) (tCons (tVar 1) tNil))) { nx := fun _ H' => Q V.non H', rt := Q } [some (.ref D.d), some (.ref b), none] H2 := fun H2 k2 => by
          repeat walk_at "vc"
          refine ⟨D, O, _, _, _, rfl, k2.dk, oa.kp (k1.trans k2), rl_is (oa.kp (k1.trans k2)) (ra1.mono (k2.tups k1.dk)) rs, fun u t' H3 k3 i3 => ?_⟩
          exact q u t' H3 ((k1.trans k2).trans k3) (i3.up (by omega))
        cases cw : isTxt "wire" (.str (kindK r))
        · refine ⟨_, rfl, iteF ?_⟩
          have nw : kindK r ≠ "wire" := of_decide_eq_false cw
          repeat walk_at "vc"
          refine ⟨D, 4, rfl, k1.dk, by decide, by decide, fun r2 H2 _ _ k2 => ?_⟩
          repeat walk_at "vc"
          refine ite2 (fun _ => odd H2 k2) (fun _ => ?_)
          have hb2 := k2.tups k1.dk _ _ hb
          have al2 := al.same (k2.keepO oa.sub)
          repeat walk_at "vc"
          refine ⟨b, _, rfl, .inr (SqT.of hb2), ?_⟩
          repeat walk_at "vc"
          have hln : (V.str (kindK r) :: x :: as).length = as.length + 2 := by simp
          refine ⟨D, _, rfl, k2.dk, by rw [hln]; omega, by rw [hln]; omega, fun r3 H3 r30 r31 k3 => ?_⟩
          rw [hln] at r31
          have hb3 := k3.tups k2.dk _ _ hb2
          have al3 := al2.same (k3.keepO oa.sub)
          obtain ⟨j, rfl⟩ : ∃ j : Nat, r3 = (j : Int) := ⟨r3.toNat, by omega⟩
          have hj : j < as.length + 1 := by omega
          have ej : (1 : Int) + (j : Int) = ((j + 1 : Nat) : Int) := by omega
          have ej2 : ((j + 1 : Nat) : Int) + 1 = ((j + 2 : Nat) : Int) := by omega
          repeat walk_at "vc"
          rw [ej]
          refine ⟨b, _, rfl, SqT.of hb3, fun h => ?_, fun p4 hp4 => ?_⟩
          · have h2 := h.2
            rw [HT.sIx_nat, hln] at h2
            omega
          rw [cutT _ (by rw [hln]; omega)]
          generalize hE : upd H3 p4 _ = H4
          obtain ⟨S4, q4⟩ := upd_pair hp4 hE
          clear hE
          have hb4 := S4 _ _ hb3
          have k4 := (k2.trans k3).trans (Kp.of k3.dk S4)
          have al4 := al3.same (.of S4)
          have ey : (V.str (kindK r) :: x :: as)[j + 1]? = some ((x :: as)[j]'(by simp; omega)) := by
            rw [List.getElem?_cons_succ]; exact List.getElem?_eq_getElem _
          generalize (x :: as)[j]'(by simp; omega) = y at ey
          have my : y ∈ x :: as := by
            rw [List.getElem?_cons_succ] at ey
            exact List.mem_of_getElem? ey
          obtain ⟨r', ra', rd', rs'⟩ := sub nw y my
          repeat walk_at "vc"
          refine i_ixT hb4 (atI_nat ey) ?_
          repeat walk_at "vc"
          have DA4 := k4.dk
          refine ⟨D, O, y, r', rfl, DA4, oa.kp (k1.trans k4), ra'.mono (k4.tups k1.dk), by omega, rs', fun u t' H5 k5 i5 => ?_⟩
          have q5 := k5.tups DA4 _ _ q4
          have hb5 := k5.tups DA4 _ _ hb4
          have al5 := al4.same (k5.keepO oa.sub)
          refine i_nil ⟨by show 1 ≤ _; omega, fun p6 hp6 => ?_⟩
          generalize hE : upd H5 p6 _ = H6
          obtain ⟨S6, q6⟩ := upd_pair hp6 hE
          clear hE
          refine ⟨p4, p6, _, _, rfl, rfl, SqT.of (S6 _ _ q5), SqT.of q6, by simp, by rw [List.length_take, hln]; simp; omega, (fun h => by cases h), fun _ p7 hp7 => ?_⟩
          generalize hE : upd H6 p7 _ = H7
          obtain ⟨S7, q7⟩ := upd_pair hp7 hE
          clear hE
          have S57 := S6.trans S7
          repeat walk_at "vc"
          rw [ej2]
          refine ⟨b, _, rfl, SqT.of (S57 _ _ hb5), fun h => ?_, fun p8 hp8 => ?_⟩
          · have h1 := h.1
            rw [HT.sIx_nat, hln] at h1
            omega
          rw [cutF _ (by rw [hln]; omega)]
          generalize hE : upd H7 p8 _ = H8
          obtain ⟨S8, q8⟩ := upd_pair hp8 hE
          clear hE
          have S58 := S57.trans S8
          have k8 := (k4.trans k5).trans (Kp.of k5.dk S58)
          have al8 : All2 O H8 (d + 4) (V.str (kindK r) :: x :: as) ts := (al5.same (.of S58)).up (by omega)
          have i8 : Is O H8 (d + 4) u t' := i5.keep (.of S58)
          have al9 := (al8.take (j + 1)).app (.cons i8 .nil)
          refine ⟨p7, p8, _, _, rfl, rfl, SqT.of (S8 _ _ q7), SqT.of q8, by simp, by rw [List.length_append, List.length_take, List.length_drop, hln]; simp; omega, fun hz => ?_, fun _ p9 hp9 => ?_⟩
          · exact q (.ref p7) _ H8 (k1.trans k8) (Is.ofT ((oa.kp (k1.trans k8)).tup (S8 _ _ q7)) (S8 _ _ q7) al9 (by rw [List.length_append, List.length_take, hln]; simp; omega))
          · generalize hE : upd H8 p9 _ = H9
            obtain ⟨S9, q9⟩ := upd_pair hp9 hE
            clear hE
            have k9 := (k1.trans k8).trans (Kp.of k8.dk S9)
            exact q (.ref p9) _ H9 k9 (Is.ofT ((oa.kp k9).tup q9) q9 ((al9.app (al8.drop (j + 2))).same (.of S9)) (by rw [List.length_append, List.length_append, List.length_take, List.length_drop, hln]; simp; omega))
        · refine ⟨_, rfl, iteT ?_⟩
          first | exact odd H1 (Kp.of k1.dk (Same.refl _)) | exact iteT (odd H1 (Kp.of k1.dk (Same.refl _)))
end
set_option Elab.async false
set_option linter.all false
set_option maxRecDepth 100000
set_option maxHeartbeats 4000000


inductive Cp (D : Addr → Prop) (H : Hp) : Nat → V → V → Prop where
  | flat {n : Nat} {x : V} : flatV x = true → Cp D H n x x
  | same {n : Nat} {a : Addr} : ¬ D a → H a = some (.dK []) → Cp D H n (.ref a) (.ref a)
  | lst {n : Nat} {a b : Addr} {xs ys : List V} : ¬ D a → ¬ D b → H a = some (.lst xs) → H b = some (.lst ys) → a ≠ b → xs.length = ys.length → (∀ (j : Nat) x y, xs[j]? = some x → ys[j]? = some y → Cp D H n x y) → Cp D H (n + 1) (.ref a) (.ref b)
  | tup {n : Nat} {a b : Addr} {xs ys : List V} : ¬ D a → ¬ D b → H a = some (.tup xs) → H b = some (.tup ys) → a ≠ b → xs.length = ys.length → (∀ (j : Nat) x y, xs[j]? = some x → ys[j]? = some y → Cp D H n x y) → Cp D H (n + 1) (.ref a) (.ref b)
theorem Cp.keep {D D' : Addr → Prop} {H H' : Hp} (k : KeepD D H H') (le : ∀ b, D' b → D b) {n : Nat} {x y : V} (h : Cp D H n x y) : Cp D' H' n x y := by
  induction h with
  | flat f => exact .flat f
  | same no e => exact .same (fun h => no (le _ h)) (k _ _ e no)
  | lst n1 n2 e1 e2 ne l _ ih => exact .lst (fun h => n1 (le _ h)) (fun h => n2 (le _ h)) (k _ _ e1 n1) (k _ _ e2 n2) ne l ih
  | tup n1 n2 e1 e2 ne l _ ih => exact .tup (fun h => n1 (le _ h)) (fun h => n2 (le _ h)) (k _ _ e1 n1) (k _ _ e2 n2) ne l ih
theorem Is.less {D D' : Addr → Prop} {H : Hp} (le : ∀ b, D' b → D b) {n : Nat} {v : V} {t : Tr} (h : Is D H n v t) : Is D' H n v t := by
  induction h with
  | non => exact .non
  | bl => exact .bl
  | int => exact .int
  | str h => exact .str h
  | lst no e l1 l2 _ ih => exact .lst (fun h => no (le _ h)) e l1 l2 ih
  | tup no e l1 l2 _ ih => exact .tup (fun h => no (le _ h)) e l1 l2 ih
  | dct no e => exact .dct (fun h => no (le _ h)) e
noncomputable def mor (D : Addr → Prop) (L : Addr) : Addr → Prop := fun b => D b ∨ b = L
theorem Is.more {D : Addr → Prop} {H : Hp} {L : Addr} (hL : H L = none) {n : Nat} {v : V} {t : Tr} (h : Is D H n v t) : Is (mor D L) H n v t := by
  have ap : ∀ {a o}, ¬ D a → H a = some o → ¬ mor D L a := fun no e z => by
    rcases z with z | z
    · exact no z
    · rw [z, hL] at e; cases e
  induction h with
  | non => exact .non
  | bl => exact .bl
  | int => exact .int
  | str h => exact .str h
  | lst no e l1 l2 _ ih => exact .lst (ap no e) e l1 l2 ih
  | tup no e l1 l2 _ ih => exact .tup (ap no e) e l1 l2 ih
  | dct no e => exact .dct (ap no e) e
theorem al_more {D : Addr → Prop} {H H' : Hp} {L : Addr} {o : HO} (a : Al D H) (S : Same H H') (e : H' L = some o) : Al (mor D L) H' := fun b h z => by
  rcases z with z | z
  · exact a b (Same.free S h) z
  · rw [z, e] at h; cases h
theorem keep_more {D : Addr → Prop} {H H' : Hp} {L : Addr} {o : HO} (S : Same H H') : KeepD (mor D L) H (upd H' L o) := fun b u e no => by
  rw [upd_ne fun z => no (.inr z)]; exact S b u e
theorem eqV_same {x : V} (f : flatV x = true) : eqV x x = true := by
  cases x with
  | non => rfl
  | bl b => show (b == b) = true; simp
  | int i => show (i == i) = true; simp
  | str z => show (z == z) = true; simp
  | _ => cases f
theorem scal_flat {x : V} (f : flatV x = true) : scal x x = true := by
  cases x with
  | non => rfl
  | bl b => rfl
  | int i => rfl
  | str z => rfl
  | _ => cases f
theorem Cp.eqD {K : PySem.W.Frag} {D : Addr → Prop} {H : Hp} {n : Nat} {x y : V} (h : Cp D H n x y) : ∀ {m : Nat}, n ≤ m → EqD K H m x y true := by
  induction h with
  | @flat n x f => intro m _; have q : EqD K H m x x (eqV x x) := .flat f f; rw [eqV_same f] at q; exact q
  | same => intro m _; exact .same
  | @lst n a b xs ys n1 n2 e1 e2 ne l _ ih =>
    intro m hm
    obtain ⟨m, rfl⟩ : ∃ k, m = k + 1 := ⟨m - 1, by omega⟩
    have q : EqD K H (m + 1) (.ref a) (.ref b) ((List.range xs.length).all fun _ => true) := .lists (SqL.of e1) (SqL.of e2) l (fun j x y h1 h2 => ih j x y h1 h2 (by omega)) ne
    rw [show ((List.range xs.length).all fun _ => true) = true by simp] at q
    exact q
  | @tup n a b xs ys n1 n2 e1 e2 ne l _ ih =>
    intro m hm
    obtain ⟨m, rfl⟩ : ∃ k, m = k + 1 := ⟨m - 1, by omega⟩
    have q : EqD K H (m + 1) (.ref a) (.ref b) ((List.range (min xs.length ys.length)).all (fun _ => true) && xs.length == ys.length) := .tups (SqT.of e1) (SqT.of e2) (fun j x y h1 h2 => ih j x y h1 h2 (by omega)) ne
    rw [l, show ((List.range (min ys.length ys.length)).all (fun _ => true) && ys.length == ys.length) = true by simp] at q
    exact q
noncomputable def spDeepT (k : Nat) : Sp := fun vs H Q _ => ∃ (D : Addr → Prop) (n : Nat) (v : V) (t : Tr), vs = [v] ∧ n + 1 ≤ k ∧ Al D H ∧ Is D H n v t ∧ ∀ u H', Same H H' → Is D H' n u t → Cp D H' n u v → Q u H'
noncomputable def spRightT : Sp := fun vs H Q _ => ∃ (D : Dk) (n : Nat) (v : V) (t : Tr), vs = [v] ∧ n ≤ 20 ∧ D.At H ∧ Is D H n v t ∧ ∀ H', Same H H' → Q (.bl true) H'
section
variable {P : Program} {w : World} {K : PySem.W.Frag} {mg : Str → Option Value} {base : Heap} {TT : Addr}
theorem sc_law_deep : FnScope ["thing"] ["thing"] (defScope (top 33)) := ⟨rfl, rfl, rfl, by decide +kernel, rfl, by decide +kernel, by decide +kernel⟩
theorem ok_deepT {f : Addr} {fd : FuncData} (Fu : Fun K "_law_deep" "_law_deep" (top 33) f fd) (T : Txt K mg TT) (hm : mg "_law_deep" = some (.ref f)) (hk : PySem.W.keepIn K (.ref f) = true) (hb : Binds K fd ["thing"] []) : ∀ d, FnOk P w K mg base CX0 d f fd ["thing"] (spDeepT d)
  | 0 => fnok_false fun vs H Q E ⟨D, n, v, t, _, h, _⟩ => by omega
  | k + 1 => by
    have S := sc_law_deep
    have f_law_deep : Fn P w K mg base "_law_deep" ["thing"] k (spDeepT k) := ⟨f, fd, ok_deepT Fu T hm hk hb k, hm, hk, hb⟩
    refine Fu.ok S (fun vs H Q E h => ?_) (fun cdv A outer s H vs Q E hr h => ?_)
    · obtain ⟨D, n, v, t, rfl, _⟩ := h
      rfl
    · obtain ⟨D, n, v, t, rfl, hk', DA, it, q⟩ := h
      have hu := hu_of hr
      have big : 1000 < sizeLine := by decide
      refine ⟨_, (pss_cons (ps_if (pt_val (pe_callB call_isinst (by rfl) T.n_isinstance PyProof.Rows.boot_isinstance (pa_cons (pv 0) (pa_cons (pe_bltn (v := .ty "list") (by rfl) T.n_list PyProof.Rows.boot_list rfl) pa_nil)))) (pss_one (ps_ret (pe_lc (tgs := ["one"]) (cap := []) rfl ⟨rfl, rfl, rfl, rfl, rfl, rfl⟩ (pi_list (pv 0)) (fun _ _ _ _ => (pg_name (i := 0) (show List.Nodup [("one" : Str)] by decide +kernel) rfl (by first | exact Or.inl rfl | exact Or.inr rfl))) (fun _ _ _ _ => pifs_nil) (fun _ _ _ _ => (pe_fn f_law_deep (hr.mono (by first | decide | omega)) (by rfl) (pa_cons (pv 0) pa_nil)))))) pss_nil)
      (pss_cons (ps_if (pt_val (pe_callB call_isinst (by rfl) T.n_isinstance PyProof.Rows.boot_isinstance (pa_cons (pv 0) (pa_cons (pe_bltn (v := .ty "tuple") (by rfl) T.n_tuple PyProof.Rows.boot_tuple rfl) pa_nil)))) (pss_one (ps_ret (pe_callTy call_tuple_of (by rfl) T.n_tuple PyProof.Rows.boot_tuple (pa_cons (pe_lc (tgs := ["one"]) (cap := []) rfl ⟨rfl, rfl, rfl, rfl, rfl, rfl⟩ (pi_tup (pv 0)) (fun _ _ _ _ => (pg_name (i := 0) (show List.Nodup [("one" : Str)] by decide +kernel) rfl (by first | exact Or.inl rfl | exact Or.inr rfl))) (fun _ _ _ _ => pifs_nil) (fun _ _ _ _ => (pe_fn f_law_deep (hr.mono (by first | decide | omega)) (by rfl) (pa_cons (pv 0) pa_nil)))) pa_nil)))) pss_nil)
      (pss_one (ps_ret (pv 0))))), ?_⟩
      try dsimp only [cxOf, Cx.nox, Cx.wish]
      rw [show L2.start ["thing"] [v] = [some v] from rfl]
      repeat walk_at "vc"
      refine ⟨_, _, _, _, rfl, it.ty, kit_lst _, ?_⟩
      cases cl : t.isLst
      · refine ⟨_, rfl, iteF ?_⟩
        repeat walk_at "vc"
        refine ⟨_, _, _, _, rfl, it.ty, kit_tup _, ?_⟩
        cases id it with
        | @tup n a xs ts no e l1 l2 hi =>
          refine ⟨_, rfl, iteT ?_⟩
          have al : All2 D H n xs ts := ⟨l1, hi⟩
          repeat walk_at "vc"
          refine i_comp (s_tup ?_)
          repeat walk_at "vc"
          refine ⟨a, rfl, ⟨_, SqT.of e⟩, fun L hL => ?_⟩
          refine comp_tup (xs := xs) (fun m H' ys => Same H H' ∧ H' L = some (.lst ys) ∧ All2 (mor D L) H' n ys (ts.take m) ∧ ∀ (j : Nat) u x, ys[j]? = some u → xs[j]? = some x → Cp (mor D L) H' n u x) ⟨fresh_same hL, upd_same, All2.nil, fun j u x h _ => by simp at h⟩ (fun m H' ys p => ⟨p.2.1, SqT.of (p.1 _ _ e)⟩) (fun m x H' ys ex p => ?_) (fun H' ys p => ?_)
          · obtain ⟨Sm, hd, ay, cy⟩ := p
            have hm' : m < xs.length := (List.getElem?_eq_some_iff.mp ex).1
            obtain ⟨t', et, it'⟩ := al.get ex
            have yl := ay.1
            rw [List.length_take] at yl
            refine s_name ⟨trivial, i_yes (iteT ?_)⟩
            refine i_call (i_cons (i_var rfl (i_nil ⟨mor D L, n, x, t', rfl, by omega, al_more DA Sm hd, (it'.more hL).keep (.of Sm), fun u H2 S2 iu cu => ?_⟩)))
            have k3 : KeepD (mor D L) H2 (upd H2 L (.lst (ys ++ [u]))) := keep_more (Same.refl H2)
            refine NextC.mk (S2 _ _ hd) hm' (by omega) ⟨same_upd (Sm.trans S2) hL, upd_same, ay.snoc (keep_more S2) et (iu.keep k3), fun j u' x' h1 h2 => ?_⟩
            by_cases c : j < ys.length
            · rw [List.getElem?_append_left c] at h1
              exact (cy j u' x' h1 h2).keep (keep_more S2) fun _ h => h
            · have lj := (List.getElem?_eq_some_iff.mp h1).1
              rw [List.length_append, List.length_singleton] at lj
              have ej : j = m := by omega
              rw [List.getElem?_append_right (by omega), show j - ys.length = 0 by omega] at h1
              cases h1
              rw [ej, ex] at h2
              cases h2
              exact cu.keep k3 fun _ h => h
          · obtain ⟨Sm, hd, ay, cy⟩ := p
            have lt : ∀ b, D b → mor D L b := fun b h => .inl h
            rw [List.take_of_length_le (by omega)] at ay
            have ay' : All2 D H' n ys ts := ⟨ay.1, fun j x t e1 e2 => (ay.2 j x t e1 e2).less lt⟩
            have yl := ay.1
            refine i_nil ⟨L, ys, rfl, .inl ⟨SqL.of hd, fun p4 hp4 => ?_⟩⟩
            generalize hE : upd H' p4 _ = H4
            obtain ⟨S4, q4⟩ := upd_pair hp4 hE
            clear hE
            have no4 : ¬ D p4 := DA.same Sm _ hp4
            exact q (.ref p4) H4 (Sm.trans S4) (Is.ofT no4 q4 (ay'.same (.of S4)) (by omega)) (.tup no4 no q4 ((Sm.trans S4) _ _ e) (ne_of_none (Sm _ _ e) hp4).symm (by omega) fun j x y h1 h2 => ((cy j x y h1 h2).keep (.of S4) fun _ h => h).keep (fun _ _ e _ => e) lt)
        | lst => cases cl
        | dct no e => exact ⟨_, rfl, iteF (s_next (s_ret (i_var rfl (q _ H (Same.refl H) it (.same no e)))))⟩
        | _ => exact ⟨_, rfl, iteF (s_next (s_ret (i_var rfl (q _ H (Same.refl H) it (.flat rfl)))))⟩
      · cases id it with
        | @lst n a xs ts no e l1 l2 hi =>
          refine ⟨_, rfl, iteT ?_⟩
          have al : All2 D H n xs ts := ⟨l1, hi⟩
          repeat walk_at "vc"
          refine i_comp (s_list ?_)
          repeat walk_at "vc"
          refine ⟨a, rfl, ⟨_, SqL.of e⟩, fun L hL => ?_⟩
          refine comp_list (xs := xs) (fun m H' ys => Same H H' ∧ H' L = some (.lst ys) ∧ All2 (mor D L) H' n ys (ts.take m) ∧ ∀ (j : Nat) u x, ys[j]? = some u → xs[j]? = some x → Cp (mor D L) H' n u x) ⟨fresh_same hL, upd_same, All2.nil, fun j u x h _ => by simp at h⟩ (fun m H' ys p => ⟨p.2.1, SqL.of (p.1 _ _ e)⟩) (fun m x H' ys ex p => ?_) (fun H' ys p => ?_)
          · obtain ⟨Sm, hd, ay, cy⟩ := p
            have hm' : m < xs.length := (List.getElem?_eq_some_iff.mp ex).1
            obtain ⟨t', et, it'⟩ := al.get ex
            have yl := ay.1
            rw [List.length_take] at yl
            refine s_name ⟨trivial, i_yes (iteT ?_)⟩
            refine i_call (i_cons (i_var rfl (i_nil ⟨mor D L, n, x, t', rfl, by omega, al_more DA Sm hd, (it'.more hL).keep (.of Sm), fun u H2 S2 iu cu => ?_⟩)))
            have k3 : KeepD (mor D L) H2 (upd H2 L (.lst (ys ++ [u]))) := keep_more (Same.refl H2)
            refine NextC.mk (S2 _ _ hd) hm' (by omega) ⟨same_upd (Sm.trans S2) hL, upd_same, ay.snoc (keep_more S2) et (iu.keep k3), fun j u' x' h1 h2 => ?_⟩
            by_cases c : j < ys.length
            · rw [List.getElem?_append_left c] at h1
              exact (cy j u' x' h1 h2).keep (keep_more S2) fun _ h => h
            · have lj := (List.getElem?_eq_some_iff.mp h1).1
              rw [List.length_append, List.length_singleton] at lj
              have ej : j = m := by omega
              rw [List.getElem?_append_right (by omega), show j - ys.length = 0 by omega] at h1
              cases h1
              rw [ej, ex] at h2
              cases h2
              exact cu.keep k3 fun _ h => h
          · obtain ⟨Sm, hd, ay, cy⟩ := p
            have lt : ∀ b, D b → mor D L b := fun b h => .inl h
            rw [List.take_of_length_le (by omega)] at ay
            have ay' : All2 D H' n ys ts := ⟨ay.1, fun j x t e1 e2 => (ay.2 j x t e1 e2).less lt⟩
            have yl := ay.1
            exact q (.ref L) H' Sm (Is.ofL (DA L hL) hd ay' (by omega)) (.lst (DA L hL) no hd (Sm _ _ e) (ne_of_none e hL).symm (by omega) fun j x y h1 h2 => (cy j x y h1 h2).keep (fun _ _ e _ => e) lt)
        | _ => cases cl
theorem sc_law_right : FnScope ["thing", "due", "handed", "found"] ["thing"] (defScope (top 34)) := ⟨rfl, rfl, rfl, by decide +kernel, rfl, by decide +kernel, by decide +kernel⟩
theorem ok_rightT {f : Addr} {fd : FuncData} (Fu : Fun K "_law_right" "_law_right" (top 34) f fd) (T : Txt K mg TT) (f_law_good : Fn P w K mg base "_law_good" ["thing"] 12 spIsNetT) (f_law_deep : Fn P w K mg base "_law_deep" ["thing"] 21 (spDeepT 21)) (f_is_net : Fn P w K mg base "is_net" ["thing"] 12 spIsNetT) : FnOk P w K mg base CX0 22 f fd ["thing"] spRightT := by
  have S := sc_law_right
  refine Fu.ok S (fun vs H Q E h => ?_) (fun cdv A outer s H vs Q E hr h => ?_)
  · obtain ⟨D, n, v, t, rfl, _⟩ := h
    rfl
  · obtain ⟨D, n, v, t, rfl, hn, DA, it, q⟩ := h
    have hu := hu_of hr
    refine ⟨_, (pss_cons (ps_set (i := 1) S.nd rfl (by first | exact Or.inl rfl | exact Or.inr rfl) (pe_fn f_law_good (hr.mono (by first | decide | omega)) (by rfl) (pa_cons (pv 0) pa_nil)))
      (pss_cons (ps_set (i := 2) S.nd rfl (by first | exact Or.inl rfl | exact Or.inr rfl) (pe_fn f_law_deep (hr.mono (by first | decide | omega)) (by rfl) (pa_cons (pv 0) pa_nil)))
      (pss_cons (ps_set (i := 3) S.nd rfl (by first | exact Or.inl rfl | exact Or.inr rfl) (pe_fn f_is_net (hr.mono (by first | decide | omega)) (by rfl) (pa_cons (pv 2) pa_nil)))
      (pss_one (ps_ret (pe_and (pe_callB call_isinst (by rfl) T.n_isinstance PyProof.Rows.boot_isinstance (pa_cons (pv 3) (pa_cons (pe_bltn (v := .ty "bool") (by rfl) T.n_bool PyProof.Rows.boot_bool rfl) pa_nil))) (pe_and (pe_cmpR op_eq (pv 3) (pv 1) (nomark _)) (pe_one (pe_cmpR (op_eqSm hr.units) (pv 2) (pv 0) (nomark _)))))))))), ?_⟩
    try dsimp only [cxOf, Cx.nox, Cx.wish]
    rw [show L2.start ["thing", "due", "handed", "found"] [v] = [some v, none, none, none] from rfl]
    repeat walk_at "vc"
    refine ⟨D.own, n, v, t, rfl, it, fun H1 S1 => ?_⟩
    repeat walk_at "vc"
    refine ⟨D.own, n, v, t, rfl, by omega, (DA.same S1).al, it.keep (.of S1), fun u H2 S2 iu cu => ?_⟩
    repeat walk_at "vc"
    refine ⟨D.own, n, u, t, rfl, iu, fun H3 S3 => ?_⟩
    repeat walk_at "vc"
    refine ⟨_, _, _, _, rfl, TyOf.bl _, kit_same "bool", ?_⟩
    refine ⟨_, rfl, iteT ?_⟩
    repeat walk_at "vc"
    refine ifT (decide_eq_true rfl) ?_
    repeat walk_at "vc"
    have cu3 := cu.keep (.of S3) fun _ h => h
    refine ⟨?_, q H3 (S1.trans (S2.trans S3))⟩
    cases id cu3 with
    | @flat n x f => exact .inl ⟨rfl, scal_flat f⟩
    | @same n a no e => exact .inr (.inr (.inr ⟨a, rfl, rfl, e⟩))
    | @lst n a b xs ys _ _ e1 e2 ne l hi => exact .inr (.inl ⟨a, b, xs, ys, rfl, rfl, SqL.of e1, SqL.of e2, l, fun j x y h1 h2 => (hi j x y h1 h2).eqD (by omega)⟩)
    | @tup n a b xs ys _ _ e1 e2 ne l hi => exact .inr (.inr (.inl ⟨a, b, xs, ys, rfl, rfl, SqT.of e1, SqT.of e2, l, fun j x y h1 h2 => (hi j x y h1 h2).eqD (by omega)⟩))
end
set_option Elab.async false
set_option linter.all false
set_option maxRecDepth 100000
set_option maxHeartbeats 4000000


noncomputable def ren (π : Str → Str) : Rl → Rl
  | .w n => .w (π n)
  | .no r => .no (ren π r)
  | .an a b => .an (ren π a) (ren π b)
  | .orr a b => .orr (ren π a) (ren π b)
theorem ren_dep (π : Str → Str) : ∀ r : Rl, (ren π r).dep = r.dep
  | .w n => rfl
  | .no r => by show (ren π r).dep + 1 = r.dep + 1; rw [ren_dep π r]
  | .an a b => by show max (ren π a).dep (ren π b).dep + 1 = max a.dep b.dep + 1; rw [ren_dep π a, ren_dep π b]
  | .orr a b => by show max (ren π a).dep (ren π b).dep + 1 = max a.dep b.dep + 1; rw [ren_dep π a, ren_dep π b]
noncomputable def kindR : Rl → Str
  | .w _ => "wire"
  | .no _ => "not"
  | .an _ _ => "and"
  | .orr _ _ => "or"
noncomputable def argsR : Rl → List Rl
  | .w _ => []
  | .no r => [r]
  | .an a b => [a, b]
  | .orr a b => [a, b]
theorem rat_args {H : Hp} {v : V} {r : Rl} (h : RAt H v r) : (∃ b n, v = .ref b ∧ r = .w n ∧ H b = some (.tup [.str "wire", .str n])) ∨ ∃ b as, v = .ref b ∧ kindR r ≠ "wire" ∧ H b = some (.tup (.str (kindR r) :: as)) ∧ Paired (RAt H) as (argsR r) ∧ 1 ≤ as.length ∧ as.length ≤ 2 := by
  cases h with
  | w hb => exact .inl ⟨_, _, rfl, rfl, hb⟩
  | no hb h1 => exact .inr ⟨_, _, rfl, by show ("not" : Str) ≠ "wire"; decide +kernel, hb, .cons h1 .nil, by simp, by simp⟩
  | an hb h1 h2 => exact .inr ⟨_, _, rfl, by show ("and" : Str) ≠ "wire"; decide +kernel, hb, .cons h1 (.cons h2 .nil), by simp, by simp⟩
  | orr hb h1 h2 => exact .inr ⟨_, _, rfl, by show ("or" : Str) ≠ "wire"; decide +kernel, hb, .cons h1 (.cons h2 .nil), by simp, by simp⟩
theorem rat_ren {H : Hp} {b : Addr} {π : Str → Str} {as : List V} : ∀ {r : Rl}, kindR r ≠ "wire" → H b = some (.tup (.str (kindR r) :: as)) → Paired (fun v s => RAt H v (ren π s)) as (argsR r) → RAt H (.ref b) (ren π r)
  | .w n, h, _, _ => absurd rfl h
  | .no r, _, e, .cons h1 .nil => .no e h1
  | .an x y, _, e, .cons h1 (.cons h2 .nil) => .an e h1 h2
  | .orr x y, _, e, .cons h1 (.cons h2 .nil) => .orr e h1 h2
theorem ren_sm {π : Str → Str} (h : ∀ n : Str, n.length ≤ 1000 → (π n).length ≤ 1000) : ∀ r : Rl, r.sm → (ren π r).sm
  | .w n => fun q => h n q
  | .no r => fun q => ren_sm h r q
  | .an a b => fun q => ⟨ren_sm h a q.1, ren_sm h b q.2⟩
  | .orr a b => fun q => ⟨ren_sm h a q.1, ren_sm h b q.2⟩
theorem args_sm {r s : Rl} (h : r.sm) (m : s ∈ argsR r) : s.sm ∧ s.dep + 1 ≤ r.dep := by
  cases r with
  | w n => cases m
  | no r => rw [List.mem_singleton.mp m]; exact ⟨h, Nat.le_refl _⟩
  | an a b =>
    rcases List.mem_cons.mp m with e | e
    · rw [e]; exact ⟨h.1, by show a.dep + 1 ≤ max a.dep b.dep + 1; omega⟩
    · rw [List.mem_singleton.mp e]; exact ⟨h.2, by show b.dep + 1 ≤ max a.dep b.dep + 1; omega⟩
  | orr a b =>
    rcases List.mem_cons.mp m with e | e
    · rw [e]; exact ⟨h.1, by show a.dep + 1 ≤ max a.dep b.dep + 1; omega⟩
    · rw [List.mem_singleton.mp e]; exact ⟨h.2, by show b.dep + 1 ≤ max a.dep b.dep + 1; omega⟩
noncomputable def swp (nm ot n : Str) : Str := if n = nm then ot else n
theorem kindR_small (r : Rl) : (kindR r).length ≤ 1000 := by
  cases r with
  | w n => show ("wire" : Str).length ≤ 1000; decide +kernel
  | no r => show ("not" : Str).length ≤ 1000; decide +kernel
  | an a b => show ("and" : Str).length ≤ 1000; decide +kernel
  | orr a b => show ("or" : Str).length ≤ 1000; decide +kernel
theorem str_dec {a b : Str} : decide (V.str a = V.str b) = decide (a = b) := by
  rw [Bool.eq_iff_iff, decide_eq_true_iff, decide_eq_true_iff]
  exact ⟨fun h => by injection h, fun h => by rw [h]⟩
theorem pick2 {x y : V} (b : Bool) : atI [x, y] (if b = true then 1 else 0) = some (if b = true then y else x) := by cases b <;> rfl
noncomputable def spReadAs (d : Nat) : Sp := fun vs H Q _ => ∃ (v : V) (r : Rl) (nm ot : Str), vs = [v, .str nm, .str ot] ∧ RAt H v r ∧ r.dep ≤ d ∧ r.sm ∧ ∀ u H', Same H H' → RAt H' u (ren (swp nm ot) r) → Q u H'
noncomputable def spDeepR : Sp := fun vs H Q _ => ∃ (nm : Str) (k : Nat), vs = [.str nm, .int k] ∧ nm.length ≤ 1000 ∧ 1 ≤ k ∧ k ≤ 12 ∧ ∀ u r H', Same H H' → RAt H' u r → r.dep ≤ k → r.sm → Q u H'
section
variable {P : Program} {w : World} {K : PySem.W.Frag} {mg : Str → Option Value} {base : Heap} {TT : Addr}
theorem sc_law_read_as : FnScope ["rule", "name", "other"] ["rule", "name", "other"] (defScope (top 28)) := ⟨rfl, rfl, rfl, by decide +kernel, rfl, by decide +kernel, by decide +kernel⟩
theorem ok_readas {f : Addr} {fd : FuncData} (Fu : Fun K "_law_read_as" "_law_read_as" (top 28) f fd) (T : Txt K mg TT) (hm : mg "_law_read_as" = some (.ref f)) (hk : PySem.W.keepIn K (.ref f) = true) (hb : Binds K fd ["rule", "name", "other"] []) : ∀ d, FnOk P w K mg base CX0 d f fd ["rule", "name", "other"] (spReadAs d)
  | 0 => fnok_false fun vs H Q E ⟨v, r, nm, ot, _, _, h, _⟩ => by have := dep_pos r; omega
  | d + 1 => by
    have S := sc_law_read_as
    have f_law_read_as : Fn P w K mg base "_law_read_as" ["rule", "name", "other"] d (spReadAs d) := ⟨f, fd, ok_readas Fu T hm hk hb d, hm, hk, hb⟩
    refine Fu.ok S (fun vs H Q E h => ?_) (fun cdv A outer s H vs Q E hr h => ?_)
    · obtain ⟨v, r, nm, ot, rfl, _⟩ := h
      rfl
    · obtain ⟨v, r, nm, ot, rfl, ra, hd, rs, q⟩ := h
      have hu := hu_of hr
      have big : 1000 < sizeLine := by decide
      refine ⟨_, (pss_cons (ps_if (pt_cmpR (op_eqTx hr.units) (pe_ix ix_tup (pv 0) pe_int (fun _ _ => rfl)) pe_str (nomark _)) (pss_one (ps_ret (pe_tup (pa_cons pe_str (pa_cons (pe_ix ix_list (pe_lst (pa_cons (pe_ix ix_tup (pv 0) pe_int (fun _ _ => rfl)) (pa_cons (pv 2) pa_nil))) (pe_callTy call_int1 (by rfl) T.n_int PyProof.Rows.boot_int (pa_cons (pe_cmpR op_eq (pe_ix ix_tup (pv 0) pe_int (fun _ _ => rfl)) (pv 1) (nomark _)) pa_nil)) (fun _ _ => rfl)) pa_nil))))) pss_nil)
      (pss_one (ps_ret (pe_op op_catT (pe_tup (pa_cons (pe_ix ix_tup (pv 0) pe_int (fun _ _ => rfl)) pa_nil)) (pe_callTy call_tuple_of (by rfl) T.n_tuple PyProof.Rows.boot_tuple (pa_cons (pe_lc (tgs := ["one"]) (cap := [("name", 1), ("other", 2)]) rfl ⟨rfl, rfl, rfl, rfl, rfl, rfl⟩ (pi_tup (pe_slice sl_tup (pv 0) (po_some pe_int) po_none)) (fun _ _ _ _ => (pg_name (i := 0) (show List.Nodup [("one" : Str), ("name" : Str), ("other" : Str)] by decide +kernel) rfl (by first | exact Or.inl rfl | exact Or.inr rfl))) (fun _ _ _ _ => pifs_nil) (fun _ _ _ _ => (pe_fn f_law_read_as (hr.mono (by first | decide | omega)) (by rfl) (pa_cons (pv 0) (pa_cons (pv 1) (pa_cons (pv 2) pa_nil)))))) pa_nil)))))), ?_⟩
      try dsimp only [cxOf, Cx.nox, Cx.wish]
      rw [show L2.start ["rule", "name", "other"] [v, V.str nm, V.str ot] = [some v, some (.str nm), some (.str ot)] from rfl]
      rcases rat_args ra with ⟨b, n, rfl, rfl, hb⟩ | ⟨b, as, rfl, nw, hb, pa, a1, a2⟩
      · repeat walk_at "vc"
        refine i_eqTx (D := fun _ => False) (n := 0) (.str (by decide +kernel)) ?_
        refine ⟨_, rfl, ifT (by decide +kernel) ?_⟩
        repeat walk_at "vc"
        refine ⟨by show 2 ≤ _; omega, fun p hp => ?_⟩
        generalize hE : upd H p _ = H1
        obtain ⟨S1, q1⟩ := upd_pair hp hE
        clear hE
        have hb1 := S1 _ _ hb
        repeat walk_at "vc"
        rw [str_dec]
        refine i_ixL (SqL.of q1) (pick2 _) ?_
        rw [show (if decide (n = nm) = true then V.str ot else V.str n) = V.str (swp nm ot n) by unfold swp; by_cases c : n = nm <;> simp [c]]
        repeat walk_at "vc"
        refine ⟨by show 2 ≤ _; omega, fun p2 hp2 => ?_⟩
        exact q (.ref p2) _ (S1.trans (fresh_same hp2)) (.w upd_same)
      · repeat walk_at "vc"
        refine i_ixT hb (atI_nat (j := 0) rfl) ?_
        repeat walk_at "vc"
        refine i_eqTx (D := fun _ => False) (n := 0) (.str (kindR_small r)) ?_
        refine ⟨_, rfl, ifF (decide_eq_false nw) ?_⟩
        repeat walk_at "vc"
        refine i_ixT hb (atI_nat (j := 0) rfl) ?_
        repeat walk_at "vc"
        refine ⟨by show 1 ≤ _; omega, fun p1 hp1 => ?_⟩
        generalize hE : upd H p1 _ = H1
        obtain ⟨S1, q1⟩ := upd_pair hp1 hE
        clear hE
        have hb1 := S1 _ _ hb
        repeat walk_at "vc"
        refine i_comp (s_tup ?_)
        repeat walk_at "vc"
        refine ⟨b, _, rfl, SqT.of hb1, ?_, fun c hc => ?_⟩
        · intro h
          have h1 := h.1
          rw [List.length_cons, six_one] at h1
          cases h1
        rw [cut_one]
        generalize hE : upd H1 c _ = H2
        obtain ⟨S2, q2⟩ := upd_pair hc hE
        clear hE
        have S02 := S1.trans S2
        have pl := paired_len pa
        refine ⟨c, rfl, ⟨_, SqT.of q2⟩, fun L hL => ?_⟩
        refine comp_tup (xs := as) (fun m H' ys => Same H2 H' ∧ H' L = some (.lst ys) ∧ Paired (fun v s => RAt H' v (ren (swp nm ot) s)) ys ((argsR r).take m)) ⟨fresh_same hL, upd_same, .nil⟩ (fun m H' ys p => ⟨p.2.1, SqT.of (p.1 _ _ q2)⟩) (fun m x H' ys e p => ?_) (fun H' ys p => ?_)
        · obtain ⟨Sm, hd', pr⟩ := p
          have hm' : m < as.length := (List.getElem?_eq_some_iff.mp e).1
          obtain ⟨r', er, h1⟩ := paired_at pa m x e
          obtain ⟨o1, o2⟩ := args_sm rs (List.mem_of_getElem? er)
          refine s_name ⟨by repeat' (first | exact trivial | refine ⟨rfl, ?_⟩), i_yes (iteT ?_)⟩
          repeat walk_at "vc"
          refine ⟨x, r', nm, ot, rfl, h1.mono (Same.tups (S02.trans Sm)), by omega, o1, fun u H3 S3 hu3 => ?_⟩
          have yl := paired_len pr
          rw [List.length_take] at yl
          have eD : KeepT H3 (upd H3 L (HO.lst (ys ++ [u]))) := fun b xs e => by rw [upd_ne]; exact e; intro z; subst z; rw [S3 _ _ hd'] at e; cases e
          refine NextC.mk (S3 _ _ hd') hm' (by omega) ⟨same_upd (Sm.trans S3) hL, upd_same, ?_⟩
          rw [List.take_succ, er]
          exact paired_snoc (paired_mono (fun v s h => (h.mono (Same.tups S3)).mono eD) pr) (hu3.mono eD)
        · obtain ⟨Sm, hd', pr⟩ := p
          rw [pl, List.take_length] at pr
          have yl := paired_len pr
          refine i_nil ⟨L, ys, rfl, .inl ⟨SqL.of hd', fun p4 hp4 => ?_⟩⟩
          generalize hE : upd H' p4 _ = H4
          obtain ⟨S4, q4⟩ := upd_pair hp4 hE
          clear hE
          refine ⟨p1, p4, _, _, rfl, rfl, SqT.of ((S2.trans (Sm.trans S4)) _ _ q1), SqT.of q4, by simp, by show 1 + _ ≤ _; omega, (fun z => by rw [z] at yl; simp at yl; omega), fun _ p5 hp5 => ?_⟩
          generalize hE : upd H4 p5 _ = H5
          obtain ⟨S5, q5⟩ := upd_pair hp5 hE
          clear hE
          exact q (.ref p5) H5 (S02.trans (Sm.trans (S4.trans S5))) (rat_ren nw q5 (paired_mono (fun v s h => h.mono (Same.tups (S4.trans S5))) pr))
theorem sc_law_deep_rule : FnScope ["name", "deep", "rule", "k", "some"] ["name", "deep"] (defScope (top 31)) := ⟨rfl, rfl, rfl, by decide +kernel, rfl, by decide +kernel, by decide +kernel⟩
theorem ok_deepR {f : Addr} {fd : FuncData} (Fu : Fun K "_law_deep_rule" "_law_deep_rule" (top 31) f fd) (T : Txt K mg TT) : FnOk P w K mg base CX0 1 f fd ["name", "deep"] spDeepR := by
  have S := sc_law_deep_rule
  refine Fu.ok S (fun vs H Q E h => ?_) (fun cdv A outer s H vs Q E hr h => ?_)
  · obtain ⟨nm, k, rfl, _⟩ := h
    rfl
  · obtain ⟨nm, k, rfl, hn, k1, k12, q⟩ := h
    have big : 1000 < sizeLine := by decide
    refine ⟨_, (pss_cons (ps_set (i := 2) S.nd rfl (by first | exact Or.inl rfl | exact Or.inr rfl) (pe_tup (pa_cons pe_str (pa_cons (pv 0) pa_nil))))
      (pss_cons (ps_for PassesOwn.never rfl (pi_range1 (by rfl) T.n_range (pa_cons (pe_op op_sub (pv 1) pe_int) pa_nil)) (pg_name (i := 3) S.nd rfl (by first | exact Or.inl rfl | exact Or.inr rfl))
      (pss_cons (ps_set (i := 4) S.nd rfl (by first | exact Or.inl rfl | exact Or.inr rfl) (pe_lst (pa_cons (pe_tup (pa_cons pe_str (pa_cons (pv 2) pa_nil))) (pa_cons (pe_tup (pa_cons pe_str (pa_cons (pe_tup (pa_cons pe_str (pa_cons (pv 0) pa_nil))) (pa_cons (pv 2) pa_nil)))) (pa_cons (pe_tup (pa_cons pe_str (pa_cons (pv 2) (pa_cons (pv 2) pa_nil)))) (pa_cons (pe_tup (pa_cons pe_str (pa_cons (pv 2) (pa_cons (pe_tup (pa_cons pe_str (pa_cons (pv 0) pa_nil))) pa_nil)))) pa_nil))))))
      (pss_one (ps_set (i := 2) S.nd rfl (by first | exact Or.inl rfl | exact Or.inr rfl) (pe_ix ix_list (pv 4) (pe_op op_mod (pe_op op_add (pv 3) (pv 1)) pe_int) (fun _ _ => rfl))))))
      (pss_one (ps_ret (pv 2))))), ?_⟩
    try dsimp only [cxOf, Cx.nox, Cx.wish]
    rw [show L2.start ["name", "deep", "rule", "k", "some"] [V.str nm, V.int k] = [some (.str nm), some (.int k), none, none, none] from rfl]
    repeat walk_at "vc"
    refine ⟨by show 2 ≤ _; omega, fun p hp => ?_⟩
    generalize hE : upd H p _ = H1
    obtain ⟨S1, q1⟩ := upd_pair hp hE
    clear hE
    repeat walk_at "vc"
    refine ⟨by omega, by omega, ?_⟩
    rw [show ((k : Int) - 1).toNat = k - 1 by omega]
    refine for_range (fun i σ H' => ∃ u r x3 x4, σ = [some (.str nm), some (.int k), some u, x3, x4] ∧ Same H H' ∧ RAt H' u r ∧ r.dep ≤ i + 1 ∧ r.sm) ⟨.ref p, .w nm, _, _, rfl, S1, .w q1, Nat.le_refl _, hn⟩ (fun i σ H' hi pv => ?_) (fun σ H' pv => ?_)
    · obtain ⟨u, r, x3, x4, rfl, Sm, ra, rd, rs⟩ := pv
      refine s_name ?_
      repeat walk_at "vc"
      refine ⟨by show 2 ≤ _; omega, fun p1 hp1 => ?_⟩
      generalize hE : upd H' p1 _ = H2
      obtain ⟨S2, q2⟩ := upd_pair hp1 hE
      clear hE
      repeat walk_at "vc"
      refine ⟨by show 2 ≤ _; omega, fun p2 hp2 => ?_⟩
      generalize hE : upd H2 p2 _ = H3
      obtain ⟨S3, q3⟩ := upd_pair hp2 hE
      clear hE
      repeat walk_at "vc"
      refine ⟨by show 3 ≤ _; omega, fun p3 hp3 => ?_⟩
      generalize hE : upd H3 p3 _ = H4
      obtain ⟨S4, q4⟩ := upd_pair hp3 hE
      clear hE
      repeat walk_at "vc"
      refine ⟨by show 3 ≤ _; omega, fun p4 hp4 => ?_⟩
      generalize hE : upd H4 p4 _ = H5
      obtain ⟨S5, q5⟩ := upd_pair hp4 hE
      clear hE
      repeat walk_at "vc"
      refine ⟨by show 2 ≤ _; omega, fun p5 hp5 => ?_⟩
      generalize hE : upd H5 p5 _ = H6
      obtain ⟨S6, q6⟩ := upd_pair hp5 hE
      clear hE
      repeat walk_at "vc"
      refine ⟨by show 3 ≤ _; omega, fun p6 hp6 => ?_⟩
      generalize hE : upd H6 p6 _ = H7
      obtain ⟨S7, q7⟩ := upd_pair hp6 hE
      clear hE
      repeat walk_at "vc"
      refine ⟨by show 4 ≤ _; omega, fun p7 hp7 => ?_⟩
      generalize hE : upd H7 p7 _ = H8
      obtain ⟨S8, q8⟩ := upd_pair hp7 hE
      clear hE
      have S78 := S8
      have S68 := S7.trans S78
      have S58 := S6.trans S68
      have S48 := S5.trans S58
      have S38 := S4.trans S48
      have S28 := S3.trans S38
      have S18 := S2.trans S28
      have ru : RAt H8 u r := ra.mono (Same.tups S18)
      have w1 : RAt H8 (.ref p2) (.w nm) := .w (S38 _ _ q3)
      have w2 : RAt H8 (.ref p5) (.w nm) := .w (S68 _ _ q6)
      have dm : max (Rl.w nm).dep r.dep ≤ i + 1 := by show max 1 r.dep ≤ i + 1; omega
      have dm2 : max r.dep (Rl.w nm).dep ≤ i + 1 := by show max r.dep 1 ≤ i + 1; omega
      repeat walk_at "vc"
      have e0 : 0 ≤ (0 + (i : Int) + (k : Int)) % 4 := by omega
      have e4 : (0 + (i : Int) + (k : Int)) % 4 < 4 := by omega
      generalize (0 + (i : Int) + (k : Int)) % 4 = e at *
      obtain ⟨j, rfl⟩ : ∃ j : Nat, e = j := ⟨e.toNat, by omega⟩
      have hj : j = 0 ∨ j = 1 ∨ j = 2 ∨ j = 3 := by omega
      rcases hj with rfl | rfl | rfl | rfl
      · refine i_ixL (SqL.of q8) (atI_nat (j := 0) rfl) ?_
        exact ⟨_, .no r, _, _, rfl, Sm.trans S18, .no (S28 _ _ q2) ru, by show r.dep + 1 ≤ _; omega, rs⟩
      · refine i_ixL (SqL.of q8) (atI_nat (j := 1) rfl) ?_
        exact ⟨_, .an (.w nm) r, _, _, rfl, Sm.trans S18, .an (S48 _ _ q4) w1 ru, by show max (Rl.w nm).dep r.dep + 1 ≤ _; omega, ⟨hn, rs⟩⟩
      · refine i_ixL (SqL.of q8) (atI_nat (j := 2) rfl) ?_
        exact ⟨_, .orr r r, _, _, rfl, Sm.trans S18, .orr (S58 _ _ q5) ru ru, by show max r.dep r.dep + 1 ≤ _; omega, ⟨rs, rs⟩⟩
      · refine i_ixL (SqL.of q8) (atI_nat (j := 3) rfl) ?_
        exact ⟨_, .an r (.w nm), _, _, rfl, Sm.trans S18, .an (S78 _ _ q7) ru w2, by show max r.dep (Rl.w nm).dep + 1 ≤ _; omega, ⟨rs, hn⟩⟩
    · obtain ⟨u, r, x3, x4, rfl, Sm, ra, rd, rs⟩ := pv
      repeat walk_at "vc"
      exact q u r H' Sm ra (by omega) rs
end
set_option Elab.async false
set_option linter.all false
set_option maxRecDepth 100000
set_option maxHeartbeats 4000000


noncomputable def trG (g : Str × Rl) : Tr := .tup [.str g.1, trR g.2]
noncomputable def trN (ins : List Str) (gs : List (Str × Rl)) : Tr := .tup [.lst (ins.map Tr.str), .lst (gs.map trG)]
theorem strs_all {D : Addr → Prop} {H : Hp} {n : Nat} : ∀ {ins : List Str}, (∀ z ∈ ins, z.length ≤ 1000) → All2 D H n (ins.map V.str) (ins.map Tr.str)
  | [], _ => All2.nil
  | z :: zs, h => All2.cons (.str (h z (by simp))) (strs_all fun y hy => h y (List.mem_cons_of_mem _ hy))
theorem gates_all {D : Dk} {O : Addr → Prop} {H : Hp} (oa : OL D O H) {m : Nat} : ∀ {vs : List V} {gs : List (Str × Rl)}, Paired (GAt H) vs gs → (∀ g ∈ gs, g.2.sm ∧ g.2.dep ≤ m ∧ g.1.length ≤ 1000) → All2 O H (m + 1) vs (gs.map trG)
  | _, _, .nil, _ => All2.nil
  | _, _, .cons h t, hr => by
    obtain ⟨b, rv, rfl, hb, hv⟩ := h
    obtain ⟨s, d, l⟩ := hr _ List.mem_cons_self
    exact All2.cons (Is.ofT (oa.tup hb) hb (.cons (.str l) (.cons ((rl_is oa hv s).up d) .nil)) (by simp)) (gates_all oa t fun g hg => hr g (List.mem_cons_of_mem _ hg))
theorem net_is {D : Dk} {H : Hp} (DA : D.At H) {a li lg : Addr} {ins : List Str} {vs : List V} {gs : List (Str × Rl)} (NA : NAt H a li lg ins vs gs) {m : Nat} (hr : ∀ g ∈ gs, g.2.sm ∧ g.2.dep ≤ m ∧ g.1.length ≤ 1000) (hi : ∀ n ∈ ins, n.length ≤ 1000) (l1 : ins.length ≤ 100) (l2 : gs.length ≤ 100) : Is D.own H (m + 3) (.ref a) (trN ins gs) := by
  have no1 : ¬ D.own li := notOwn DA NA.hi (fun xs e => by cases e; exact noint_strs ins)
  have no2 : ¬ D.own lg := notOwn DA NA.hg (fun xs e => by cases e; exact noint_refs (gates_refs NA.gates))
  have lg' := paired_len NA.gates
  refine Is.ofT (notOwnT DA NA.ha) NA.ha (.cons (Is.ofL no1 NA.hi (strs_all hi) (by rw [List.length_map]; exact l1)) (.cons (Is.ofL no2 NA.hg (gates_all DA.ol NA.gates hr) (by omega)) .nil)) (by simp)
theorem ok_sm {ws : List Str} (h : ∀ n ∈ ws, Low n) : ∀ {r : Rl}, r.ok ws → r.sm
  | .w n, q => by have := (h n q).l8; show n.length ≤ 1000; omega
  | .no r, q => ok_sm h (r := r) q
  | .an a b, q => ⟨ok_sm h q.1, ok_sm h q.2⟩
  | .orr a b, q => ⟨ok_sm h q.1, ok_sm h q.2⟩
theorem net_rules {ins : List Str} {gs : List (Str × Rl)} (ok : NetOk ins gs) : ∀ g ∈ gs, g.2.sm ∧ g.2.dep ≤ 10 ∧ g.1.length ≤ 1000 := fun g hg => by
  obtain ⟨r1, r2⟩ := ok.rules g hg
  have := (ok.low g.1 (by unfold wiresN; exact List.mem_append.mpr (.inr (List.mem_map_of_mem hg)))).l8
  exact ⟨ok_sm ok.low r1, r2, by omega⟩
theorem net_ins {ins : List Str} {gs : List (Str × Rl)} (ok : NetOk ins gs) : ∀ n ∈ ins, n.length ≤ 1000 := fun n hn => by
  have := (ok.low n (by unfold wiresN; exact List.mem_append.mpr (.inl hn))).l8
  omega
theorem ruleG_ok {ws : List Str} : ∀ {r : Rl} {d : Nat}, r.ok ws → r.dep ≤ d → ruleG ws d (trR r) = true
  | .w n, d, q, h => by
    obtain ⟨d, rfl⟩ : ∃ k, d = k + 1 := ⟨d - 1, by have : (Rl.w n).dep = 1 := rfl; omega⟩
    show ruleG ws (d + 1) (.tup (.str "wire" :: [.str n])) = true
    rw [ruleG_tup, if_pos (show partN "wire" = some ([Tr.str n].length + 1) from (show partN "wire" = some 2 by decide +kernel)), if_pos rfl]
    show (memT ws (.str n) && true) = true
    rw [Bool.and_true]
    exact inV_str.mpr q
  | .no r, d, q, h => by
    have e : (Rl.no r).dep = r.dep + 1 := rfl
    obtain ⟨d, rfl⟩ : ∃ k, d = k + 1 := ⟨d - 1, by omega⟩
    show ruleG ws (d + 1) (.tup (.str "not" :: [trR r])) = true
    rw [ruleG_tup, if_pos (show partN "not" = some ([trR r].length + 1) from (show partN "not" = some 2 by decide +kernel)), if_neg (by decide +kernel)]
    show (ruleG ws d (trR r) && true) = true
    rw [Bool.and_true]
    exact ruleG_ok q (by omega)
  | .an a b, d, q, h => by
    have e : (Rl.an a b).dep = max a.dep b.dep + 1 := rfl
    obtain ⟨d, rfl⟩ : ∃ k, d = k + 1 := ⟨d - 1, by omega⟩
    show ruleG ws (d + 1) (.tup (.str "and" :: [trR a, trR b])) = true
    rw [ruleG_tup, if_pos (show partN "and" = some ([trR a, trR b].length + 1) from (show partN "and" = some 3 by decide +kernel)), if_neg (by decide +kernel)]
    show (ruleG ws d (trR a) && (ruleG ws d (trR b) && true)) = true
    rw [ruleG_ok q.1 (by omega), ruleG_ok q.2 (by omega)]; rfl
  | .orr a b, d, q, h => by
    have e : (Rl.orr a b).dep = max a.dep b.dep + 1 := rfl
    obtain ⟨d, rfl⟩ : ∃ k, d = k + 1 := ⟨d - 1, by omega⟩
    show ruleG ws (d + 1) (.tup (.str "or" :: [trR a, trR b])) = true
    rw [ruleG_tup, if_pos (show partN "or" = some ([trR a, trR b].length + 1) from (show partN "or" = some 3 by decide +kernel)), if_neg (by decide +kernel)]
    show (ruleG ws d (trR a) && (ruleG ws d (trR b) && true)) = true
    rw [ruleG_ok q.1 (by omega), ruleG_ok q.2 (by omega)]; rfl
theorem lt_all : ∀ c, 97 ≤ c → c ≤ 122 → c ∈ Lt.cps.toList := fun c h1 h2 => by
  have all : ∀ k : Fin 26, 97 + k.val ∈ Lt.cps.toList := by decide +kernel
  have q := all ⟨c - 97, by omega⟩
  simpa only [show 97 + (c - 97) = c by omega] using q
theorem nameG_low {z : Str} (h : Low z) : nameG (.str z) = true := by
  have l1 := h.l1
  have l8 := h.l8
  show (decide (1 ≤ z.length) && (decide (z.length ≤ 8) && lowC z)) = true
  rw [decide_eq_true l1, decide_eq_true l8]
  unfold lowC
  simp only [Bool.true_and, List.all_eq_true, decide_eq_true_iff]
  exact fun c hc => lt_all c (h.low c hc).1 (h.low c hc).2
theorem good_net {ins : List Str} {gs : List (Str × Rl)} (q : NetQ ins gs) : good (trN ins gs) = true := by
  obtain ⟨ok, i4, g1, g7, nd⟩ := q
  have e1 : (ins.map Tr.str ++ (gs.map trG).map nmOf) = (wiresN ins gs).map Tr.str := by
    unfold wiresN
    rw [List.map_append, List.map_map, List.map_map]; rfl
  have e2 : ((wiresN ins gs).map Tr.str).map strOf = wiresN ins gs := by
    rw [List.map_map]
    exact List.map_id'' (fun _ => rfl) _
  show (decide ((ins.map Tr.str).length ≤ 4) && (decide (1 ≤ (gs.map trG).length) && (decide ((gs.map trG).length ≤ 7) && ((gs.map trG).all isPair && ((ins.map Tr.str ++ (gs.map trG).map nmOf).all nameG && (decide ((ins.map Tr.str ++ (gs.map trG).map nmOf).map strOf).Nodup && (gs.map trG).all fun g => ruleG ((ins.map Tr.str ++ (gs.map trG).map nmOf).map strOf) 10 (rlOf g))))))) = true
  rw [e1, e2, List.length_map, List.length_map, decide_eq_true i4, decide_eq_true g1, decide_eq_true g7, decide_eq_true nd]
  simp only [Bool.true_and, Bool.and_eq_true, List.all_eq_true, List.mem_map]
  refine ⟨fun t ⟨g, _, e⟩ => by rw [← e]; rfl, fun t ⟨n, hn, e⟩ => by rw [← e]; exact nameG_low (ok.low n hn), fun t ⟨g, hg, e⟩ => ?_⟩
  rw [← e]
  exact ruleG_ok (ok.rules g hg).1 (ok.rules g hg).2
noncomputable def spFit : Sp := fun vs H Q _ => ∃ (D : Dk), vs = [.ref D.d] ∧ D.At H ∧ ∀ v t H', Kp D H H' → Is D.own H' 16 v t → Q v H'
noncomputable def spNamed : Sp := fun vs H Q _ => ∃ (D : Dk) (a li lg : Addr) (ins : List Str) (gvs : List V) (gs : List (Str × Rl)), vs = [.ref D.d, .ref a] ∧ D.At H ∧ NAt H a li lg ins gvs gs ∧ NetQ ins gs ∧ ∀ v t H', Kp D H H' → Is D.own H' 16 v t → Q v H'
theorem fit_len : ∀ t, t < 26 → ∀ m ∈ ([1, 8, 9] : List Int), (Txt.mul ⟨#[Lt.cps.getD t 0]⟩ m).length ≤ 1000 := by decide +kernel
theorem fit_mul (c : Nat) : ∀ m ∈ ([1, 8, 9] : List Int), MulOk ⟨#[c]⟩ m := by
  intro m hm
  have hm : m = 1 ∨ m = 8 ∨ m = 9 := by simpa using hm
  rcases hm with rfl | rfl | rfl
  all_goals
    refine ⟨by decide, fun _ _ => ?_, fun _ _ => ?_⟩
    · show ¬ ((1 : Int) > (2 ^ 63 - 1) / _)
      decide
    · rfl
section
variable {P : Program} {w : World} {K : PySem.W.Frag} {mg : Str → Option Value} {base : Heap} {TT : Addr}
theorem sc_law_fitting : FnScope ["deck", "letters", "inputs", "gates", "names", "found", "name", "read"] ["deck"] (defScope (top 32)) := ⟨rfl, rfl, rfl, by decide +kernel, rfl, by decide +kernel, by decide +kernel⟩
theorem ok_fit {f : Addr} {fd : FuncData} (Fu : Fun K "_law_fitting" "_law_fitting" (top 32) f fd) (T : Txt K mg TT) (f_law_draw : Fn P w K mg base "_law_draw" ["deck", "many"] 1 spDraw) (f_law_deep_rule : Fn P w K mg base "_law_deep_rule" ["name", "deep"] 1 spDeepR) : FnOk P w K mg base CX0 2 f fd ["deck"] spFit := by
  have S := sc_law_fitting
  refine Fu.ok S (fun vs H Q E h => ?_) (fun cdv A outer s H vs Q E hr h => ?_)
  · obtain ⟨D, rfl, _⟩ := h
    rfl
  · obtain ⟨D, rfl, DA, q⟩ := h
    have big : 1000 < sizeLine := by decide
    refine ⟨_, (pss_cons (ps_set (i := 1) S.nd rfl (by first | exact Or.inl rfl | exact Or.inr rfl) pe_str)
      (pss_cons (ps_set (i := 2) S.nd rfl (by first | exact Or.inl rfl | exact Or.inr rfl) (pe_fn f_law_draw (hr.mono (by first | decide | omega)) (by rfl) (pa_cons (pv 0) (pa_cons pe_int pa_nil))))
      (pss_cons (ps_set (i := 3) S.nd rfl (by first | exact Or.inl rfl | exact Or.inr rfl) (pe_fn f_law_draw (hr.mono (by first | decide | omega)) (by rfl) (pa_cons (pv 0) (pa_cons pe_int pa_nil))))
      (pss_cons (ps_lc (j := 4) S.nd rfl (by first | exact Or.inl rfl | exact Or.inr rfl) (tgs := ["k"]) (cap := [("letters", 1), ("deck", 0)]) rfl ⟨rfl, rfl, rfl, rfl, rfl, rfl⟩ (pi_range1 (by rfl) T.n_range (pa_cons (pe_op op_add (pv 2) (pv 3)) pa_nil)) (fun _ _ _ _ => (pg_name (i := 0) (show List.Nodup [("k" : Str), ("letters" : Str), ("deck" : Str)] by decide +kernel) rfl (by first | exact Or.inl rfl | exact Or.inr rfl))) (fun _ _ _ _ => pifs_nil) (fun _ _ _ _ => (pe_op op_mul_str (pe_ix ix_str (pv 1) (pv 0) (fun _ _ => rfl)) (pe_ix (ix_listK (K := K) rfl) (pe_lst (pa_cons pe_int (pa_cons pe_int (pa_cons pe_int (pa_cons pe_int pa_nil))))) (pe_op op_fdiv (pe_fn f_law_draw (hr.mono (by first | decide | omega)) (by rfl) (pa_cons (pv 2) (pa_cons pe_int pa_nil))) pe_int) (fun _ _ => rfl)))))
      (pss_cons (ps_set (i := 5) S.nd rfl (by first | exact Or.inl rfl | exact Or.inr rfl) (pe_lst pa_nil))
      (pss_cons (ps_for PassesOwn.never rfl (pi_list (pe_slice sl_list (pv 4) (po_some (pv 2)) po_none)) (pg_name (i := 6) S.nd rfl (by first | exact Or.inl rfl | exact Or.inr rfl))
      (pss_cons (ps_set (i := 7) S.nd rfl (by first | exact Or.inl rfl | exact Or.inr rfl) (pe_ix ix_list (pv 4) (pe_fn f_law_draw (hr.mono (by first | decide | omega)) (by rfl) (pa_cons (pv 0) (pa_cons (pe_callB call_len_seq (by rfl) T.n_len PySem.boot_len (pa_cons (pv 4) pa_nil)) pa_nil))) (fun _ _ => rfl)))
      (pss_one (ps_expr (pe_bm PySem.F.plainAttrs_list PySem.F.slot_list_append PySem.F.type_list_append mt_append (pv 5) (pa_cons (pe_tup (pa_cons (pv 6) (pa_cons (pe_fn f_law_deep_rule (hr.mono (by first | decide | omega)) (by rfl) (pa_cons (pv 7) (pa_cons (pe_ix ix_list (pe_lst (pa_cons pe_int (pa_cons pe_int (pa_cons pe_int (pa_cons pe_int (pa_cons pe_int (pa_cons pe_int pa_nil))))))) (pe_op op_fdiv (pe_fn f_law_draw (hr.mono (by first | decide | omega)) (by rfl) (pa_cons (pv 0) (pa_cons pe_int pa_nil))) pe_int) (fun _ _ => rfl)) pa_nil))) pa_nil))) pa_nil))))))
      (pss_one (ps_ret (pe_tup (pa_cons (pe_slice sl_list (pv 4) po_none (po_some (pv 2))) (pa_cons (pv 5) pa_nil))))))))))), ?_⟩
    try dsimp only [cxOf, Cx.nox, Cx.wish]
    rw [show L2.start ["deck", "letters", "inputs", "gates", "names", "found", "name", "read"] [V.ref D.d] = [some (.ref D.d), none, none, none, none, none, none, none] from rfl]
    repeat walk_at "vc"
    refine ⟨D, 7, rfl, DA, by decide, by decide, fun r1 H1 r10 r11 k1 => ?_⟩
    repeat walk_at "vc"
    refine ⟨D, 10, rfl, k1.dk, by decide, by decide, fun r2 H2 r20 r21 k2 => ?_⟩
    repeat walk_at "vc"
    have DA2 := k2.dk
    obtain ⟨n1, rfl⟩ : ∃ n : Nat, r1 = n := ⟨r1.toNat, by omega⟩
    obtain ⟨n2, rfl⟩ : ∃ n : Nat, r2 = n := ⟨r2.toNat, by omega⟩
    refine i_comp ?_
    repeat walk_at "vc"
    refine ⟨by omega, by omega, fun L hL => ?_⟩
    rw [show ((n1 : Int) + (n2 : Int)).toNat = n1 + n2 by omega]
    refine comp_range (n := n1 + n2) (fun m H' ys => Kp D H2 H' ∧ H' L = some (.lst ys) ∧ ∃ zs : List Str, ys = zs.map V.str ∧ zs.length = m ∧ ∀ z ∈ zs, z.length ≤ 1000) ⟨Kp.fresh DA2 hL (Kp.of DA2 (Same.refl _)), upd_same, [], rfl, rfl, by simp⟩ (fun i H' ys p => p.2.1) (fun i H' ys hi p => ?_) (fun H' ys p => ?_)
    · obtain ⟨kp, hd, zs, rfl, zl, zz⟩ := p
      refine s_name ⟨by repeat' (first | exact trivial | refine ⟨rfl, ?_⟩), i_yes (iteT ?_)⟩
      repeat walk_at "vc"
      have lt26 : Lt.cps.toList.length = 26 := by decide +kernel
      have ec : atI Lt.cps.toList (0 + (i : Int)) = some (Lt.cps.getD i 0) := by
        rw [Int.zero_add]
        refine atI_nat ?_
        rw [List.getElem?_eq_getElem (by omega)]
        have h26 : i < Lt.cps.size := by rw [← Array.length_toList]; omega
        simp [Array.getD, h26]
      refine i_ixS (by decide +kernel) ec ?_
      repeat walk_at "vc"
      refine ⟨by decide, fun p hp => ?_⟩
      generalize hE : upd H' p _ = H3
      obtain ⟨S3, q3⟩ := upd_pair hp hE
      clear hE
      have no3 : ¬ D.own p := notOwn_fresh kp.dk hp
      have kp3 := kp.trans (Kp.of kp.dk S3)
      repeat walk_at "vc"
      refine ⟨D, 8, rfl, kp3.dk, by decide, by decide, fun r H4 r0 r8 k4 => ?_⟩
      have q4 := k4.old _ _ q3 no3
      have hd4 := k4.strs kp3.dk (S3 _ _ hd)
      repeat walk_at "vc"
      obtain ⟨m, em, hm⟩ : ∃ m : Int, atI [V.int 1, V.int 8, V.int 9, V.int 2] (r / 3) = some (.int m) ∧ m ∈ ([1, 8, 9] : List Int) := by
        have h3 : r / 3 = 0 ∨ r / 3 = 1 ∨ r / 3 = 2 := by omega
        rcases h3 with h | h | h
        · rw [h]; exact ⟨1, rfl, by simp⟩
        · rw [h]; exact ⟨8, rfl, by simp⟩
        · rw [h]; exact ⟨9, rfl, by simp⟩
      refine i_ixL (SqL.of q4) em ?_
      refine ⟨_, _, rfl, rfl, fit_mul _ m hm, ?_⟩
      refine NextC.mk hd4 hi (by rw [List.length_map]; omega) ⟨Kp.fresh DA2 hL (kp3.trans k4), upd_same, zs ++ [_], by rw [List.map_append]; rfl, by simp [zl], fun z hz => ?_⟩
      rcases List.mem_append.mp hz with h | h
      · exact zz z h
      · rw [List.mem_singleton.mp h]; exact fit_len i (by omega) m hm
    · obtain ⟨kp, hd, zs, rfl, zl, zz⟩ := p
      have k02 := k1.trans (k2.trans kp)
      have DB := kp.dk
      refine s_name ?_
      repeat walk_at "vc"
      refine ⟨by decide, fun fo hfo => ?_⟩
      generalize hE : upd H' fo _ = H3
      obtain ⟨S3, q3⟩ := upd_pair hfo hE
      clear hE
      repeat walk_at "vc"
      refine i_slL (SqL.of (S3 _ _ hd)) fun sl hsl => ?_
      rw [cutF _ (by rw [List.length_map]; omega), ← List.map_drop]
      generalize hE : upd H3 sl _ = H4
      obtain ⟨S4, q4⟩ := upd_pair hsl hE
      clear hE
      have nsf : sl ≠ fo := fun z => by rw [z, q3] at hsl; cases hsl
      have nlf : L ≠ fo := ne_of_none hd hfo
      refine ⟨sl, rfl, ⟨_, SqL.of q4⟩, ?_⟩
      refine for_list (xs := (zs.drop n1).map V.str) (fun i σ H5 => ∃ x6 x7 vs gs, σ = [some (.ref D.d), some (.str Lt), some (.int n1), some (.int n2), some (.ref L), some (.ref fo), x6, x7] ∧ Kp D H' H5 ∧ H5 L = some (.lst (zs.map V.str)) ∧ H5 sl = some (.lst ((zs.drop n1).map V.str)) ∧ H5 fo = some (.lst vs) ∧ Paired (GAt H5) vs gs ∧ vs.length = i ∧ ∀ g ∈ gs, g.2.sm ∧ g.2.dep ≤ 12 ∧ g.1.length ≤ 1000)
        ⟨_, _, [], [], rfl, Kp.of DB (S3.trans S4), (S3.trans S4) _ _ hd, q4, S4 _ _ q3, .nil, rfl, by simp⟩ (fun i σ H5 _ p => by obtain ⟨_, _, _, _, _, _, _, h, _⟩ := p; exact SqL.of h) (fun i x σ H5 ex p => ?_) (fun σ H5 p => ?_)
      · obtain ⟨x6, x7, vs, gs, rfl, k5, hL5, hs5, hf5, pg, vl, gg⟩ := p
        have li : i < (zs.drop n1).length := by have := (List.getElem?_eq_some_iff.mp ex).1; rwa [List.length_map] at this
        rw [List.length_drop] at li
        rw [List.getElem?_map] at ex
        cases ez : (zs.drop n1)[i]? with
        | none => rw [ez] at ex; cases ex
        | some nm =>
          rw [ez] at ex
          cases ex
          have nmz : nm.length ≤ 1000 := zz nm (List.mem_of_mem_drop (List.mem_of_getElem? ez))
          refine s_name ?_
          repeat walk_at "vc"
          refine ⟨D, _, rfl, k5.dk, by rw [List.length_map]; omega, by rw [List.length_map]; omega, fun r H6 r0 r1 k6 => ?_⟩
          rw [List.length_map] at r1
          have hL6 := k6.strs k5.dk hL5
          have hs6 := k6.strs k5.dk hs5
          have hf6 := k6.refs k5.dk hf5 (gates_refs pg)
          have pg6 := gates_mono (k6.tups k5.dk) pg
          have k06 := k5.trans k6
          obtain ⟨j, rfl⟩ : ∃ n : Nat, r = n := ⟨r.toNat, by omega⟩
          have er : atI (zs.map V.str) (j : Int) = some (.str (zs[j]'(by omega))) := atI_nat (by rw [List.getElem?_map, List.getElem?_eq_getElem (by omega)]; rfl)
          refine i_ixL (SqL.of hL6) er ?_
          have rdz : (zs[j]'(by omega)).length ≤ 1000 := zz _ (List.getElem_mem _)
          generalize zs[j]'(by omega) = rd at *
          repeat walk_at "vc"
          refine ⟨by decide, fun p hp => ?_⟩
          generalize hE : upd H6 p _ = H7
          obtain ⟨S7, q7⟩ := upd_pair hp hE
          clear hE
          have no7 : ¬ D.own p := notOwn_fresh k6.dk hp
          have k07 := k06.trans (Kp.of k06.dk S7)
          repeat walk_at "vc"
          refine ⟨D, 11, rfl, k07.dk, by decide, by decide, fun r' H8 r0' r1' k8 => ?_⟩
          have q8 := k8.old _ _ q7 no7
          have k08 := k07.trans k8
          have hL8 := k8.strs k07.dk (S7 _ _ hL6)
          have hs8 := k8.strs k07.dk (S7 _ _ hs6)
          have hf8 := k8.refs k07.dk (S7 _ _ hf6) (gates_refs pg)
          have pg8 := gates_mono (k8.tups k07.dk) (gates_mono (Same.tups S7) pg6)
          repeat walk_at "vc"
          obtain ⟨m, em, m1, m12⟩ : ∃ m : Nat, atI [V.int 1, V.int 2, V.int 9, V.int 10, V.int 11, V.int 12] (r' / 2) = some (.int (m : Int)) ∧ 1 ≤ m ∧ m ≤ 12 := by
            have h3 : r' / 2 = 0 ∨ r' / 2 = 1 ∨ r' / 2 = 2 ∨ r' / 2 = 3 ∨ r' / 2 = 4 ∨ r' / 2 = 5 := by omega
            rcases h3 with h | h | h | h | h | h
            · rw [h]; exact ⟨1, rfl, by decide, by decide⟩
            · rw [h]; exact ⟨2, rfl, by decide, by decide⟩
            · rw [h]; exact ⟨9, rfl, by decide, by decide⟩
            · rw [h]; exact ⟨10, rfl, by decide, by decide⟩
            · rw [h]; exact ⟨11, rfl, by decide, by decide⟩
            · rw [h]; exact ⟨12, rfl, by decide, by decide⟩
          refine i_ixL (SqL.of q8) em ?_
          repeat walk_at "vc"
          refine ⟨rd, m, rfl, rdz, m1, m12, fun u rr H9 S9 ru rdp rsm => ?_⟩
          refine i_nil ⟨by show 2 ≤ _; omega, fun p2 hp2 => ?_⟩
          generalize hE : upd H9 p2 _ = H10
          obtain ⟨S10, q10⟩ := upd_pair hp2 hE
          clear hE
          have S910 := S9.trans S10
          have hf10 := S910 _ _ hf8
          repeat walk_at "vc"
          refine i_app hf10 (by omega) ?_
          have kF : KeepT H10 (upd H10 fo (.lst (vs ++ [.ref p2]))) := fun b xs e => by rw [upd_ne]; exact e; intro z; subst z; rw [hf10] at e; cases e
          refine ⟨_, _, vs ++ [.ref p2], gs ++ [(nm, rr)], rfl, Kp.fresh DB hfo (k08.trans (Kp.of k08.dk S910)), ?_, ?_, upd_same, ?_, by simp [vl], fun g hg => ?_⟩
          · rw [upd_ne nlf]; exact S910 _ _ hL8
          · rw [upd_ne nsf]; exact S910 _ _ hs8
          · refine paired_snoc (gates_mono kF (gates_mono (Same.tups S910) pg8)) ⟨p2, u, rfl, kF _ _ q10, (ru.mono (Same.tups S10)).mono kF⟩
          · rcases List.mem_append.mp hg with h | h
            · exact gg g h
            · rw [List.mem_singleton.mp h]; exact ⟨rsm, by show rr.dep ≤ 12; omega, nmz⟩
      · obtain ⟨x6, x7, vs, gs, rfl, k5, hL5, hs5, hf5, pg, vl, gg⟩ := p
        rw [List.length_map, List.length_drop] at vl
        repeat walk_at "vc"
        refine i_slL (SqL.of hL5) fun p6 hp6 => ?_
        rw [cutT _ (by rw [List.length_map]; omega), ← List.map_take]
        generalize hE : upd H5 p6 _ = H6
        obtain ⟨S6, q6⟩ := upd_pair hp6 hE
        clear hE
        repeat walk_at "vc"
        refine ⟨by show 2 ≤ _; omega, fun p7 hp7 => ?_⟩
        generalize hE : upd H6 p7 _ = H7
        obtain ⟨S7, q7⟩ := upd_pair hp7 hE
        clear hE
        have k7 := k02.trans (k5.trans (Kp.of k5.dk (S6.trans S7)))
        have pl := paired_len pg
        refine q (.ref p7) _ H7 k7 ((net_is (m := 12) k7.dk ⟨q7, S7 _ _ q6, (S6.trans S7) _ _ hf5, gates_mono (Same.tups (S6.trans S7)) pg⟩ gg (fun n hn => zz n (List.mem_of_mem_take hn)) (by rw [List.length_take]; omega) (by omega)).up (by decide))
end
set_option Elab.async false
set_option linter.all false
set_option maxRecDepth 100000
set_option maxHeartbeats 4000000


theorem len_add (a b : Str) : (a ++ b).length = a.length + b.length := by show (a.cps ++ b.cps).size = _; rw [Array.size_append]; rfl
section
variable {P : Program} {w : World} {K : PySem.W.Frag} {mg : Str → Option Value} {base : Heap} {TT : Addr}
theorem sc_law_named : FnScope ["deck", "net", "names", "name", "at", "signs", "sign", "letters", "some", "other", "inputs", "gates", "one", "rule"] ["deck", "net"] (defScope (top 29)) := ⟨rfl, rfl, rfl, by decide +kernel, rfl, by decide +kernel, by decide +kernel⟩
theorem ok_named {f : Addr} {fd : FuncData} (Fu : Fun K "_law_named" "_law_named" (top 29) f fd) (T : Txt K mg TT) (f_law_draw : Fn P w K mg base "_law_draw" ["deck", "many"] 1 spDraw) (f_law_read_as : Fn P w K mg base "_law_read_as" ["rule", "name", "other"] 10 (spReadAs 10)) : FnOk P w K mg base CX0 11 f fd ["deck", "net"] spNamed := by
  have S := sc_law_named
  refine Fu.ok S (fun vs H Q E h => ?_) (fun cdv A outer s H vs Q E hr h => ?_)
  · obtain ⟨D, a, li, lg, ins, gvs, gs, rfl, _⟩ := h
    rfl
  · obtain ⟨D, a, li, lg, ins, gvs, gs, rfl, DA, NA, nq, q⟩ := h
    have ok := nq.1
    have big : 1000 < sizeLine := by decide
    have i4 := nq.2.1
    have g1 := nq.2.2.1
    have g7 := nq.2.2.2.1
    refine' ⟨?_, (pss_cons ?h0 (pss_cons ?h1 (pss_cons ?h2 (pss_cons ?h3 (pss_cons ?h4 (pss_cons ?h5 (pss_cons ?h6 (pss_cons ?h7 (pss_cons ?h8 (pss_cons ?h9 (pss_cons (ps_for PassesOwn.never rfl ?h10 ?h11 (pss_one ?h12)) (pss_one ?h13)))))))))))), ?_⟩
    case h0 =>
      refine' ps_set (i := 2) ?n ?r ?l ?e ?s ?f
      case n => exact S.nd
      case r => rfl
      case l => first | exact Or.inl rfl | exact Or.inr rfl
      case s => rfl
      case f => first | exact Or.inl rfl | exact Or.inr rfl
      case e => exact (pe_op op_cat (pe_ix ix_tup (pv 1) pe_int (fun _ _ => rfl)) (pe_lc (tgs := ["gate"]) (cap := []) rfl ⟨rfl, rfl, rfl, rfl, rfl, rfl⟩ (pi_list (pe_ix ix_tup (pv 1) pe_int (fun _ _ => rfl))) (fun _ _ _ _ => (pg_name (i := 0) (show List.Nodup [("gate" : Str)] by decide +kernel) rfl (by first | exact Or.inl rfl | exact Or.inr rfl))) (fun _ _ _ _ => pifs_nil) (fun _ _ _ _ => (pe_ix (ix_tupK (K := K) rfl) (pv 0) pe_int (fun _ _ => rfl)))))
    case h1 =>
      refine' ps_set (i := 3) ?n ?r ?l ?e ?s ?f
      case n => exact S.nd
      case r => rfl
      case l => first | exact Or.inl rfl | exact Or.inr rfl
      case s => rfl
      case f => first | exact Or.inl rfl | exact Or.inr rfl
      case e => exact (pe_ix ix_list (pv 2) (pe_fn f_law_draw (hr.mono (by first | decide | omega)) (by rfl) (pa_cons (pv 0) (pa_cons (pe_callB call_len_seq (by rfl) T.n_len PySem.boot_len (pa_cons (pv 2) pa_nil)) pa_nil))) (fun _ _ => rfl))
    case h2 =>
      refine' ps_set (i := 4) ?n ?r ?l ?e ?s ?f
      case n => exact S.nd
      case r => rfl
      case l => first | exact Or.inl rfl | exact Or.inr rfl
      case s => rfl
      case f => first | exact Or.inl rfl | exact Or.inr rfl
      case e => exact (pe_fn f_law_draw (hr.mono (by first | decide | omega)) (by rfl) (pa_cons (pv 0) (pa_cons (pe_callB call_len_str (by rfl) T.n_len PySem.boot_len (pa_cons (pv 3) pa_nil)) pa_nil)))
    case h3 =>
      refine' ps_set (i := 5) ?n ?r ?l ?e ?s ?f
      case n => exact S.nd
      case r => rfl
      case l => first | exact Or.inl rfl | exact Or.inr rfl
      case s => rfl
      case f => first | exact Or.inl rfl | exact Or.inr rfl
      case e => exact pe_str
    case h4 =>
      refine' ps_set (i := 6) ?n ?r ?l ?e ?s ?f
      case n => exact S.nd
      case r => rfl
      case l => first | exact Or.inl rfl | exact Or.inr rfl
      case s => rfl
      case f => first | exact Or.inl rfl | exact Or.inr rfl
      case e => exact (pe_ix ix_str (pv 5) (pe_fn f_law_draw (hr.mono (by first | decide | omega)) (by rfl) (pa_cons (pv 0) (pa_cons (pe_callB call_len_str (by rfl) T.n_len PySem.boot_len (pa_cons (pv 5) pa_nil)) pa_nil))) (fun _ _ => rfl))
    case h5 =>
      refine' ps_set (i := 7) ?n ?r ?l ?e ?s ?f
      case n => exact S.nd
      case r => rfl
      case l => first | exact Or.inl rfl | exact Or.inr rfl
      case s => rfl
      case f => first | exact Or.inl rfl | exact Or.inr rfl
      case e => exact (pe_bm PySem.F.plainAttrs_str PySem.F.slot_str_join PySem.F.type_str_join mt_join pe_str (pa_cons (pe_lc (tgs := ["k"]) (cap := [("deck", 0)]) rfl ⟨rfl, rfl, rfl, rfl, rfl, rfl⟩ (pi_range1 (by rfl) T.n_range (pa_cons pe_int pa_nil)) (fun _ _ _ _ => (pg_name (i := 0) (show List.Nodup [("k" : Str), ("deck" : Str)] by decide +kernel) rfl (by first | exact Or.inl rfl | exact Or.inr rfl))) (fun _ _ _ _ => pifs_nil) (fun _ _ _ _ => (pe_ix ix_str pe_str (pe_fn f_law_draw (hr.mono (by first | decide | omega)) (by rfl) (pa_cons (pv 1) (pa_cons pe_int pa_nil))) (fun _ _ => rfl)))) pa_nil))
    case h6 =>
      refine' ps_set (i := 8) ?n ?r ?l ?e ?s ?f
      case n => exact S.nd
      case r => rfl
      case l => first | exact Or.inl rfl | exact Or.inr rfl
      case s => rfl
      case f => first | exact Or.inl rfl | exact Or.inr rfl
      case e => exact (pe_lst (pa_cons (pe_op op_add_str (pe_op op_add_str (pe_slice sl_str (pv 3) po_none (po_some (pv 4))) (pv 6)) (pe_slice sl_str (pv 3) (po_some (pv 4)) po_none)) (pa_cons (pe_op op_add_str (pe_op op_add_str (pe_slice sl_str (pv 3) po_none (po_some (pv 4))) (pv 6)) (pe_slice sl_str (pv 3) (po_some (pe_op op_add (pv 4) pe_int)) po_none)) (pa_cons (pe_op op_add_str (pv 3) (pv 6)) pa_nil))))
    case h7 =>
      refine' ps_set (i := 9) ?n ?r ?l ?e ?s ?f
      case n => exact S.nd
      case r => rfl
      case l => first | exact Or.inl rfl | exact Or.inr rfl
      case s => rfl
      case f => first | exact Or.inl rfl | exact Or.inr rfl
      case e => exact (pe_ix ix_list (pe_op op_cat (pv 8) (pe_lst (pa_cons (pe_slice sl_str (pv 7) po_none (po_some (pe_op op_add pe_int (pe_fn f_law_draw (hr.mono (by first | decide | omega)) (by rfl) (pa_cons (pv 0) (pa_cons pe_int pa_nil)))))) pa_nil))) (pe_fn f_law_draw (hr.mono (by first | decide | omega)) (by rfl) (pa_cons (pv 0) (pa_cons pe_int pa_nil))) (fun _ _ => rfl))
    case h8 => exact (ps_lc (j := 10) S.nd rfl (by first | exact Or.inl rfl | exact Or.inr rfl) (tgs := ["one"]) (cap := [("other", 9), ("name", 3)]) rfl ⟨rfl, rfl, rfl, rfl, rfl, rfl⟩ (pi_list (pe_ix ix_tup (pv 1) pe_int (fun _ _ => rfl))) (fun _ _ _ _ => (pg_name (i := 0) (show List.Nodup [("one" : Str), ("other" : Str), ("name" : Str)] by decide +kernel) rfl (by first | exact Or.inl rfl | exact Or.inr rfl))) (fun _ _ _ _ => pifs_nil) (fun _ _ _ _ => (pe_ix (ix_listK (K := K) rfl) (pe_lst (pa_cons (pv 0) (pa_cons (pv 1) pa_nil))) (pe_callTy call_int1 (by rfl) T.n_int PyProof.Rows.boot_int (pa_cons (pe_cmpR op_eq (pv 0) (pv 2) (nomark _)) pa_nil)) (fun _ _ => rfl))))
    case h9 =>
      refine' ps_set (i := 11) ?n ?r ?l ?e ?s ?f
      case n => exact S.nd
      case r => rfl
      case l => first | exact Or.inl rfl | exact Or.inr rfl
      case s => rfl
      case f => first | exact Or.inl rfl | exact Or.inr rfl
      case e => exact (pe_lst pa_nil)
    case h10 => exact (pi_list (pe_ix ix_tup (pv 1) pe_int (fun _ _ => rfl)))
    case h11 => exact (pg_tup rfl (pgs_cons (pg_name (i := 12) S.nd rfl (by first | exact Or.inl rfl | exact Or.inr rfl)) (pgs_cons (pg_name (i := 13) S.nd rfl (by first | exact Or.inl rfl | exact Or.inr rfl)) pgs_nil)))
    case h12 => exact (ps_expr (pe_bm PySem.F.plainAttrs_list PySem.F.slot_list_append PySem.F.type_list_append mt_append (pv 11) (pa_cons (pe_tup (pa_cons (pe_ix ix_list (pe_lst (pa_cons (pv 12) (pa_cons (pv 9) pa_nil))) (pe_callTy call_int1 (by rfl) T.n_int PyProof.Rows.boot_int (pa_cons (pe_cmpR op_eq (pv 12) (pv 3) (nomark _)) pa_nil)) (fun _ _ => rfl)) (pa_cons (pe_fn f_law_read_as (hr.mono (by first | decide | omega)) (by rfl) (pa_cons (pv 13) (pa_cons (pv 3) (pa_cons (pv 9) pa_nil)))) pa_nil))) pa_nil)))
    case h13 => exact (ps_ret (pe_tup (pa_cons (pv 10) (pa_cons (pv 11) pa_nil))))
    try dsimp only [cxOf, Cx.nox, Cx.wish]
    rw [show L2.start ["deck", "net", "names", "name", "at", "signs", "sign", "letters", "some", "other", "inputs", "gates", "one", "rule"] [V.ref D.d, V.ref a] = [some (.ref D.d), some (.ref a), none, none, none, none, none, none, none, none, none, none, none, none] from rfl]
    obtain ⟨ha, hi, hg, gts⟩ := id NA
    repeat walk_at "vc"
    refine comp_names (i := 1) rfl NA ok fun L1 H1 hL1 S1 h1 => ?_
    refine i_cat (S1 _ _ hi) h1 (by rw [List.length_map, List.length_map, List.length_map]; omega) fun p hp => ?_
    rw [wires_map]
    generalize hE : upd H1 p _ = H2
    obtain ⟨S2, q2⟩ := upd_pair hp hE
    clear hE
    have wl : (wiresN ins gs).length = ins.length + gs.length := by unfold wiresN; rw [List.length_append, List.length_map]
    have S02 := S1.trans S2
    have k02 := Kp.of DA S02
    have NA2 := NA.same S02
    clear h1 hL1 hp S1 S2 ha hi hg gts
    repeat walk_at "vc"
    refine ⟨D, _, rfl, k02.dk, by rw [List.length_map]; omega, by rw [List.length_map]; omega, fun r3 H3 r30 r31 k3 => ?_⟩
    rw [List.length_map] at r31
    have q3 := k3.strs k02.dk q2
    have k03 := k02.trans k3
    have NA3 := NA2.kp k02.dk k3
    obtain ⟨j, rfl⟩ : ∃ n : Nat, r3 = n := ⟨r3.toNat, by omega⟩
    have er : atI ((wiresN ins gs).map V.str) (j : Int) = some (.str ((wiresN ins gs)[j]'(by omega))) := atI_nat (by rw [List.getElem?_map, List.getElem?_eq_getElem (by omega)]; rfl)
    refine i_ixL (SqL.of q3) er ?_
    have lnm : Low ((wiresN ins gs)[j]'(by omega)) := ok.low _ (List.getElem_mem _)
    generalize (wiresN ins gs)[j]'(by omega) = nm at *
    have l1 := lnm.l1
    have l8 := lnm.l8
    repeat walk_at "vc"
    refine ⟨_, rfl, by omega, ?_⟩
    repeat walk_at "vc"
    refine ⟨D, _, rfl, k03.dk, by omega, by omega, fun r4 H4 r40 r41 k4 => ?_⟩
    have NA4 := NA3.kp k03.dk k4
    have k04 := k03.trans k4
    repeat walk_at "vc"
    refine ⟨_, rfl, by decide +kernel, ?_⟩
    repeat walk_at "vc"
    refine ⟨D, _, rfl, k04.dk, by decide +kernel, by decide +kernel, fun r5 H5 r50 r51 k5 => ?_⟩
    have NA5 := NA4.kp k04.dk k5
    have k05 := k04.trans k5
    obtain ⟨c, ec, _⟩ := atI_str r50 r51
    refine i_ixS (by decide +kernel) ec ?_
    repeat walk_at "vc"
    refine ⟨rfl, ?_⟩
    repeat walk_at "vc"
    refine i_comp ?_
    repeat walk_at "vc"
    refine ⟨by decide, by decide, fun L hL => ?_⟩
    refine comp_letters (t := Lt) (n := 9) k05.dk hL (by decide) (fun x => by repeat' (first | exact trivial | refine ⟨rfl, ?_⟩)) (fun i H' Q' DA' kq => ?_) (fun H6 zs hz hc k6 hl6 => ?_)
    · repeat walk_at "vc"
      refine ⟨D, 26, rfl, DA', by decide, by decide, fun r H2 r0 r1 k2 => ?_⟩
      obtain ⟨c, e, hc⟩ := atI_str (t := Lt) r0 (by rw [show ((Lt.cps.size : Nat) : Int) = 26 by decide +kernel]; exact r1)
      exact i_ixS (by decide +kernel) e (kq c H2 hc k2)
    obtain ⟨st1, st2⟩ := join_size hc
    obtain ⟨_, _, e3⟩ := letters_flat zs hc
    have e0 : ("" : Str) = Str.empty := by decide +kernel
    have e00 : ("" : Str).length = 0 := by decide +kernel
    refine i_nil ⟨"", L, zs, rfl, rfl, SqL.of hl6, by rw [e3, e00]; omega, ?_⟩
    rw [e0]
    have stl : (Txt.join Str.empty zs).length = 9 := by show (Txt.join Str.empty zs).cps.size = 9; rw [st1, hz]
    generalize Txt.join Str.empty zs = lts at *
    have NA6 := NA5.kp k05.dk k6
    have k06 := k05.trans k6
    have sl1 := Txt.slice_le nm none (some r4)
    have sl2 := Txt.slice_le nm (some r4) none
    have sl3 := Txt.slice_le nm (some (r4 + 1)) none
    have lc : (⟨#[c]⟩ : Str).length = 1 := rfl
    repeat walk_at "vc"
    refine i_slS (by omega) ?_
    repeat walk_at "vc"
    refine ⟨_, _, rfl, rfl, by omega, ?_⟩
    repeat walk_at "vc"
    refine i_slS (by omega) ?_
    refine ⟨_, _, rfl, rfl, by rw [len_add]; omega, ?_⟩
    repeat walk_at "vc"
    refine i_slS (by omega) ?_
    repeat walk_at "vc"
    refine ⟨_, _, rfl, rfl, by omega, ?_⟩
    repeat walk_at "vc"
    refine i_slS (by omega) ?_
    refine ⟨_, _, rfl, rfl, by rw [len_add]; omega, ?_⟩
    repeat walk_at "vc"
    refine ⟨_, _, rfl, rfl, by omega, ?_⟩
    repeat walk_at "vc"
    refine ⟨by show 3 ≤ _; omega, fun p7 hp7 => ?_⟩
    generalize hE : upd H6 p7 _ = H7
    obtain ⟨S7, q7⟩ := upd_pair hp7 hE
    clear hE
    have z1 : (Txt.slice nm none (some r4) ++ ⟨#[c]⟩ ++ Txt.slice nm (some r4) none).length ≤ 1000 := by rw [len_add, len_add]; omega
    have z2 : (Txt.slice nm none (some r4) ++ ⟨#[c]⟩ ++ Txt.slice nm (some (r4 + 1)) none).length ≤ 1000 := by rw [len_add, len_add]; omega
    have z3 : (nm ++ ⟨#[c]⟩).length ≤ 1000 := by rw [len_add]; omega
    generalize Txt.slice nm none (some r4) ++ ⟨#[c]⟩ ++ Txt.slice nm (some r4) none = y1 at *
    generalize Txt.slice nm none (some r4) ++ ⟨#[c]⟩ ++ Txt.slice nm (some (r4 + 1)) none = y2 at *
    generalize nm ++ ⟨#[c]⟩ = y3 at *
    have q7 : H7 p7 = some (.lst (([y1, y2, y3] : List Str).map V.str)) := q7
    have k07 := k06.trans (Kp.of k06.dk S7)
    have NA7 := NA6.same S7
    repeat walk_at "vc"
    refine ⟨D, 9, rfl, k07.dk, by decide, by decide, fun r8 H8 r80 r81 k8 => ?_⟩
    have q8 := k8.strs k07.dk q7
    have k08 := k07.trans k8
    have NA8 := NA7.kp k07.dk k8
    repeat walk_at "vc"
    refine i_slS (by omega) ?_
    have sl4 := Txt.slice_le lts none (some (1 + r8))
    have z4 : (Txt.slice lts none (some (1 + r8))).length ≤ 1000 := by omega
    generalize Txt.slice lts none (some (1 + r8)) = y4 at *
    repeat walk_at "vc"
    refine ⟨by show 1 ≤ _; omega, fun p9 hp9 => ?_⟩
    generalize hE : upd H8 p9 _ = H9
    obtain ⟨S9, q9⟩ := upd_pair hp9 hE
    clear hE
    refine i_cat (S9 _ _ q8) q9 (by simp; omega) fun p10 hp10 => ?_
    generalize hE : upd H9 p10 _ = H10
    obtain ⟨S10, q10⟩ := upd_pair hp10 hE
    clear hE
    have q10 : H10 p10 = some (.lst (([y1, y2, y3, y4] : List Str).map V.str)) := q10
    have k10 := k08.trans (Kp.of k08.dk (S9.trans S10))
    have NA10 := NA8.same (S9.trans S10)
    repeat walk_at "vc"
    refine ⟨D, 4, rfl, k10.dk, by decide, by decide, fun r11 H11 r110 r111 k11 => ?_⟩
    have q11 := k11.strs k10.dk q10
    have k011 := k10.trans k11
    have NA11 := NA10.kp k10.dk k11
    obtain ⟨ot, eo, ol⟩ : ∃ ot : Str, atI (([y1, y2, y3, y4] : List Str).map V.str) r11 = some (.str ot) ∧ ot.length ≤ 1000 := by
      have h3 : r11 = 0 ∨ r11 = 1 ∨ r11 = 2 ∨ r11 = 3 := by omega
      rcases h3 with h | h | h | h
      · rw [h]; exact ⟨y1, rfl, z1⟩
      · rw [h]; exact ⟨y2, rfl, z2⟩
      · rw [h]; exact ⟨y3, rfl, z3⟩
      · rw [h]; exact ⟨y4, rfl, z4⟩
    refine i_ixL (SqL.of q11) eo ?_
    have nml : nm.length ≤ 1000 := by omega
    have sw : ∀ n : Str, n.length ≤ 1000 → (swp nm ot n).length ≤ 1000 := fun n h => by unfold swp; split <;> assumption
    obtain ⟨ha, hi, hg, gts⟩ := id NA11
    have DB := k011.dk
    repeat walk_at "vc"
    refine i_comp (s_list ?_)
    repeat walk_at "vc"
    refine ⟨li, rfl, ⟨_, SqL.of hi⟩, fun L12 hL12 => ?_⟩
    refine comp_list (xs := ins.map V.str) (fun m H' ys => Same H11 H' ∧ H' L12 = some (.lst ys) ∧ ys = ((ins.take m).map (swp nm ot)).map V.str) ⟨fresh_same hL12, upd_same, rfl⟩ (fun m H' ys p => ⟨p.2.1, SqL.of (p.1 _ _ hi)⟩) (fun m x H' ys e p => ?_) (fun H12 ys p => ?_)
    · obtain ⟨Sm, hd, rfl⟩ := p
      have hn : m < (ins.map V.str).length := (List.getElem?_eq_some_iff.mp e).1
      rw [List.getElem?_map] at e
      cases ez : ins[m]? with
      | none => rw [ez] at e; cases e
      | some z =>
        rw [ez] at e
        cases e
        refine s_name ⟨by repeat' (first | exact trivial | refine ⟨rfl, ?_⟩), i_yes (iteT ?_)⟩
        repeat walk_at "vc"
        refine ⟨by show 2 ≤ _; omega, fun p13 hp13 => ?_⟩
        generalize hE : upd H' p13 _ = H13
        obtain ⟨S13, q13⟩ := upd_pair hp13 hE
        clear hE
        repeat walk_at "vc"
        rw [str_dec]
        refine i_ixL (SqL.of q13) (pick2 _) ?_
        rw [show (if decide (z = nm) = true then V.str ot else V.str z) = V.str (swp nm ot z) by unfold swp; by_cases c : z = nm <;> simp [c]]
        refine NextC.mk (S13 _ _ hd) hn (by rw [List.length_map, List.length_map, List.length_take]; omega) ⟨same_upd (Sm.trans S13) hL12, upd_same, ?_⟩
        rw [List.take_succ, ez, List.map_append, List.map_append]; rfl
    · obtain ⟨S12, q12, rfl⟩ := p
      rw [List.length_map, List.take_length] at q12
      refine s_name ?_
      repeat walk_at "vc"
      refine ⟨by decide, fun go hgo => ?_⟩
      generalize hE : upd H12 go _ = H13
      obtain ⟨S13, q13⟩ := upd_pair hgo hE
      clear hE
      have NA13 := NA11.same (S12.trans S13)
      have gl := paired_len gts
      have ha13 := NA13.ha
      repeat walk_at "vc"
      refine ⟨lg, rfl, ⟨_, SqL.of NA13.hg⟩, ?_⟩
      have hq12 := S13 _ _ q12
      refine for_list (xs := gvs) (fun i σ H' => ∃ x12 x13 vs, σ = [some (.ref D.d), some (.ref a), some (.ref p), some (.str nm), some (.int r4), some (.str " !#$&'()*+,-./0123456789:;<=>?@ABCDEFGHIJKLMNOPQRSTUVWXYZ[]^_`abcdefghijklmnopqrstuvwxyz{|}~\t\n"), some (.str ⟨#[c]⟩), some (.str lts), some (.ref p7), some (.str ot), some (.ref L12), some (.ref go), x12, x13] ∧ Same H12 H' ∧ H' go = some (.lst vs) ∧ Paired (GAt H') vs ((gs.take i).map fun g => (swp nm ot g.1, ren (swp nm ot) g.2))) ⟨_, _, [], rfl, S13, q13, .nil⟩ (fun i σ H' _ p => by obtain ⟨_, _, _, _, h, _⟩ := p; exact SqL.of (h _ _ (S12 _ _ hg))) (fun i x σ H' e p => ?_) (fun σ H' p => ?_)
      · obtain ⟨x12, x13, vs, rfl, Sm, hgo', pg⟩ := p
        have hn : i < gvs.length := (List.getElem?_eq_some_iff.mp e).1
        obtain ⟨g, eg, b, rv, rfl, hb, hrr⟩ := paired_at gts i x e
        obtain ⟨s1, s2, s3⟩ := net_rules ok g (List.mem_of_getElem? eg)
        have S0m := S12.trans Sm
        have pl := paired_len pg
        rw [List.length_map, List.length_take] at pl
        refine ⟨b, _, rfl, SqT.of (S0m _ _ hb), rfl, ?_⟩
        refine ⟨_, _, rfl, s_name ⟨_, _, rfl, s_name ⟨rfl, ?_⟩⟩⟩
        repeat walk_at "vc"
        refine ⟨by show 2 ≤ _; omega, fun p14 hp14 => ?_⟩
        generalize hE : upd H' p14 _ = H14
        obtain ⟨S14, q14⟩ := upd_pair hp14 hE
        clear hE
        repeat walk_at "vc"
        rw [str_dec]
        refine i_ixL (SqL.of q14) (pick2 _) ?_
        rw [show (if decide (g.1 = nm) = true then V.str ot else V.str g.1) = V.str (swp nm ot g.1) by unfold swp; by_cases c : g.1 = nm <;> simp [c]]
        repeat walk_at "vc"
        refine ⟨rv, g.2, nm, ot, rfl, hrr.mono (Same.tups (S0m.trans S14)), s2, s1, fun u H16 S16 ru => ?_⟩
        refine i_nil ⟨by show 2 ≤ _; omega, fun p17 hp17 => ?_⟩
        generalize hE : upd H16 p17 _ = H17
        obtain ⟨S17, q17⟩ := upd_pair hp17 hE
        clear hE
        have Sx := S14.trans (S16.trans S17)
        have hgo17 := Sx _ _ hgo'
        repeat walk_at "vc"
        refine i_app hgo17 (by omega) ?_
        have kF : KeepT H17 (upd H17 go (.lst (vs ++ [.ref p17]))) := fun b xs e => by rw [upd_ne]; exact e; intro z; subst z; rw [hgo17] at e; cases e
        refine ⟨_, _, vs ++ [.ref p17], rfl, same_upd (Sm.trans Sx) hgo, upd_same, ?_⟩
        rw [List.take_succ, eg, List.map_append]
        exact paired_snoc (gates_mono kF (gates_mono (Same.tups Sx) pg)) ⟨p17, u, rfl, kF _ _ q17, (ru.mono (Same.tups S17)).mono kF⟩
      · obtain ⟨x12, x13, vs, rfl, Sm, hgo', pg⟩ := p
        rw [gl, List.take_length] at pg
        repeat walk_at "vc"
        refine ⟨by show 2 ≤ _; omega, fun p15 hp15 => ?_⟩
        generalize hE : upd H' p15 _ = H15
        obtain ⟨S15, q15⟩ := upd_pair hp15 hE
        clear hE
        have S1115 := S12.trans (Sm.trans S15)
        have k15 := k011.trans (Kp.of DB S1115)
        refine q (.ref p15) _ H15 k15 ((net_is (m := 10) k15.dk ⟨q15, (Sm.trans S15) _ _ q12, S15 _ _ hgo', gates_mono (Same.tups S15) pg⟩ (fun g' hg' => ?_) (fun n hn => ?_) (by rw [List.length_map]; omega) (by rw [List.length_map]; omega)).up (by decide))
        · obtain ⟨g, hgm, rfl⟩ := List.mem_map.mp hg'
          obtain ⟨s1, s2, s3⟩ := net_rules ok g hgm
          exact ⟨ren_sm sw _ s1, by show (ren _ g.2).dep ≤ 10; rw [ren_dep]; exact s2, sw _ s3⟩
        · obtain ⟨z, hz, rfl⟩ := List.mem_map.mp hn
          exact sw _ (net_ins ok z hz)
end
set_option Elab.async false
set_option linter.all false
set_option maxRecDepth 100000
set_option maxHeartbeats 4000000



theorem se_sub {v sl : Expr} {p : Pos} {es : List Expr} {env : Env} : starEach (.Subscript v sl p :: es) env = (false, eval (.Subscript v sl p) env) :: starEach es env := by rfl
theorem keepO_upd {O : Addr → Prop} {H : Hp} {l : Addr} {o : HO} (h : O l) : KeepD O H (upd H l o) := fun b u e no => by rw [upd_ne (fun z => no (by rw [z]; exact h))]; exact e
theorem All2.set {D : Addr → Prop} {H : Hp} {n : Nat} {xs : List V} {ts : List Tr} {x : V} {t : Tr} (a : All2 D H n xs ts) (i : Is D H n x t) (j : Nat) : All2 D H n (xs.set j x) (ts.set j t) := by
  refine ⟨by rw [List.length_set, List.length_set, a.1], fun m y u e1 e2 => ?_⟩
  rw [List.getElem?_set] at e1 e2
  by_cases c : j = m
  · rw [if_pos c] at e1 e2
    split at e1
    · split at e2
      · cases e1; cases e2; exact i
      · cases e2
    · cases e1
  · rw [if_neg c] at e1 e2
    exact a.2 m y u e1 e2
theorem All2.ins {D : Addr → Prop} {H : Hp} {n : Nat} {xs : List V} {ts : List Tr} {x : V} {t : Tr} (a : All2 D H n xs ts) (i : Is D H n x t) (j : Nat) : All2 D H n (xs.take j ++ x :: xs.drop j) (ts.take j ++ t :: ts.drop j) := (a.take j).app (.cons i (a.drop j))
theorem All2.del {D : Addr → Prop} {H : Hp} {n : Nat} {xs : List V} {ts : List Tr} (a : All2 D H n xs ts) (j : Nat) : All2 D H n (xs.eraseIdx j) (ts.eraseIdx j) := by
  rw [List.eraseIdx_eq_take_drop_succ, List.eraseIdx_eq_take_drop_succ]
  exact (a.take j).app (a.drop (j + 1))
theorem ixN_nat {n j : Nat} (h : j < n) : ixN n (j : Int) = some j := by
  unfold ixN
  rw [if_pos (by omega), if_pos (by omega), Int.toNat_natCast]
theorem all2_nat {D : Addr → Prop} {H : Hp} {n j : Nat} {xs : List V} {ts : List Tr} (al : All2 D H n xs ts) (h : j < xs.length) : ∃ x t, atI xs (j : Int) = some x ∧ Is D H n x t := by
  have e : xs[j]? = some xs[j] := List.getElem?_eq_getElem h
  obtain ⟨t, _, it⟩ := al.get e
  exact ⟨_, t, atI_nat e, it⟩
theorem mk_tupleL {K : PySem.W.Frag} {D : Addr → Prop} {H0 : Hp} {σ : St} {n i : Nat} {l : Addr} {xs : List V} {ts : List Tr} (DA : Al D H0) (e : σ[i]? = some (some (.ref l))) (hl : H0 l = some (.lst xs)) (al : All2 D H0 n xs ts) (few : xs.length ≤ 100) :
    Mk D H0 σ (n + 1) (tCB (fun xs H Q => ∃ p ys, xs = [V.ref p] ∧ ((SqL K H p ys ∧ ∀ l, H l = none → Q (.ref l) (upd H l (.tup ys))) ∨ (SqT K H p ys ∧ Q (.ref p) H))) (tCons (tVar i) tNil)) := fun H Q S q =>
  i_cb (i_cons (i_var e (i_nil ⟨l, xs, rfl, .inl ⟨SqL.of (S _ _ hl), fun p hp => q (.ref p) (.tup ts) _ (fresh_same hp) (Is.ofT (DA.same S _ hp) upd_same ((al.same (.of S)).same (.of (fresh_same hp))) few)⟩⟩)))
theorem low_flat : ∀ (zs : List Str), (∀ z ∈ zs, z.length ≤ 8) → ((zs.map (·.cps.toList)).flatten).length ≤ 8 * zs.length ∧ (zs.map (·.length)).sum ≤ 8 * zs.length
  | [], _ => ⟨Nat.le_refl 0, Nat.le_refl 0⟩
  | z :: zs, h => by
    obtain ⟨e1, e2⟩ := low_flat zs fun z hz => h z (List.mem_cons_of_mem _ hz)
    have e3 := h z (by simp)
    have e4 : z.cps.toList.length = z.length := Array.length_toList ..
    simp only [List.map_cons, List.flatten_cons, List.length_append, List.sum_cons, List.length_cons]
    constructor <;> omega
theorem mk_join {K : PySem.W.Frag} {D : Addr → Prop} {H0 : Hp} {σ : St} {n i : Nat} {l : Addr} {zs : List Str} (e : σ[i]? = some (some (.ref l))) (hl : H0 l = some (.lst (zs.map V.str))) (hz : ∀ z ∈ zs, z.length ≤ 8) (few : zs.length ≤ 100) :
    Mk D H0 σ n (tBM K "str" (rJoin K) (tC (.str "")) (tCons (tVar i) tNil)) := fun H Q S q => by
  obtain ⟨f1, f2⟩ := low_flat zs hz
  have e0 : ("" : Str) = Str.empty := by decide +kernel
  have e00 : ("" : Str).length = 0 := by decide +kernel
  refine i_bm (i_c ⟨rfl, i_cons (i_var e (i_nil ⟨"", l, zs, rfl, rfl, SqL.of (S _ _ hl), by rw [e00]; omega, ?_⟩))⟩)
  refine q _ (.str (Txt.join "" zs)) H (Same.refl H) (.str ?_)
  have : (Txt.join "" zs).length = ((zs.map (·.cps.toList)).flatten).length := by
    rw [e0, ← glued_nil]
    exact (Array.length_toList ..).symm
  omega
noncomputable def spChanged : Sp := fun vs H Q _ => ∃ (D : Dk) (a li lg : Addr) (ins : List Str) (gvs : List V) (gs : List (Str × Rl)), vs = [.ref D.d, .ref a] ∧ D.At H ∧ NAt H a li lg ins gvs gs ∧ NetQ ins gs ∧ ∀ v t H', Kp D H H' → Is D.own H' 20 v t → Q v H'
section
variable {P : Program} {w : World} {K : PySem.W.Frag} {mg : Str → Option Value} {base : Heap} {TT : Addr}
theorem sc_law_changed : FnScope ["deck", "net", "inputs", "gates", "way", "at", "name", "rule", "names", "more", "some"] ["deck", "net"] (defScope (top 30)) := ⟨rfl, rfl, rfl, by decide +kernel, rfl, by decide +kernel, by decide +kernel⟩
theorem ok_changed {f : Addr} {fd : FuncData} (Fu : Fun K "_law_changed" "_law_changed" (top 30) f fd) (T : Txt K mg TT) (f_law_copy : Fn P w K mg base "_law_copy" ["net"] 1 spCopy) (f_law_draw : Fn P w K mg base "_law_draw" ["deck", "many"] 1 spDraw) (f_law_named : Fn P w K mg base "_law_named" ["deck", "net"] 11 spNamed) (f_law_bent : Fn P w K mg base "_law_bent" ["deck", "rule"] 12 (spBent 10)) (f_law_odd : Fn P w K mg base "_law_odd" ["deck", "thing"] 2 spOdd) : FnOk P w K mg base CX0 13 f fd ["deck", "net"] spChanged := by
  have S := sc_law_changed
  refine Fu.ok S (fun vs H Q E h => ?_) (fun cdv A outer s H vs Q E hr h => ?_)
  · obtain ⟨D, a, li, lg, ins, gvs, gs, rfl, _⟩ := h
    rfl
  · obtain ⟨D, a, li, lg, ins, gvs, gs, rfl, DA, NA, nq, q⟩ := h
    have ok := nq.1
    have big : 1000 < sizeLine := by decide
    have i4 := nq.2.1
    have g1 := nq.2.2.1
    have g7 := nq.2.2.2.1
    refine' ⟨?_, ?bb, ?_⟩
    case bb =>
      refine' pss_cons ?s1 ?r1
      case s1 =>
        exact (ps_asg (pe_fn f_law_copy (hr.mono (by first | decide | omega)) (by rfl) (pa_cons (pv 1) pa_nil se_name)) (pg_tup rfl (pgs_cons (pg_name (i := 2) S.nd rfl (by first | exact Or.inl rfl | exact Or.inr rfl)) (pgs_cons (pg_name (i := 3) S.nd rfl (by first | exact Or.inl rfl | exact Or.inr rfl)) pgs_nil))))
      case r1 =>
        with_reducible refine' pss_cons ?s3 ?r3
        case s3 =>
          refine' ps_set (i := 4) ?n ?r ?l ?e ?s ?f
          case n => exact S.nd
          case r => rfl
          case l => first | exact Or.inl rfl | exact Or.inr rfl
          case s => rfl
          case f => first | exact Or.inl rfl | exact Or.inr rfl
          case e => exact (pe_fn f_law_draw (hr.mono (by first | decide | omega)) (by rfl) (pa_cons (pv 0) (pa_cons pe_int pa_nil se_con) se_name))
        case r3 =>
          with_reducible refine' pss_cons ?s5 ?r5
          case s5 =>
            with_reducible refine' ps_if ?c6 ?a6 ?o6
            case c6 => exact (pt_cmpR op_gt (pv 4) pe_int (nomark _))
            case a6 =>
              with_reducible refine' pss_one ?s7
              case s7 =>
                exact (ps_ret (pe_fn f_law_named (hr.mono (by first | decide | omega)) (by rfl) (pa_cons (pv 0) (pa_cons (pv 1) pa_nil se_name) se_name)))
            case o6 =>
              exact pss_nil
          case r5 =>
            with_reducible refine' pss_cons ?s9 ?r9
            case s9 =>
              refine' ps_set (i := 5) ?n ?r ?l ?e ?s ?f
              case n => exact S.nd
              case r => rfl
              case l => first | exact Or.inl rfl | exact Or.inr rfl
              case s => rfl
              case f => first | exact Or.inl rfl | exact Or.inr rfl
              case e => exact (pe_fn f_law_draw (hr.mono (by first | decide | omega)) (by rfl) (pa_cons (pv 0) (pa_cons (pe_callB call_len_seq (by rfl) T.n_len PySem.boot_len (pa_cons (pv 3) pa_nil se_name)) pa_nil se_call) se_name))
            case r9 =>
              with_reducible refine' pss_cons ?s11 ?r11
              case s11 =>
                exact (ps_asg (pe_ix ix_list (pv 3) (pv 5) (fun _ _ => rfl)) (pg_tup rfl (pgs_cons (pg_name (i := 6) S.nd rfl (by first | exact Or.inl rfl | exact Or.inr rfl)) (pgs_cons (pg_name (i := 7) S.nd rfl (by first | exact Or.inl rfl | exact Or.inr rfl)) pgs_nil))))
              case r11 =>
                with_reducible refine' pss_cons ?s13 ?r13
                case s13 =>
                  refine' ps_set (i := 8) ?n ?r ?l ?e ?s ?f
                  case n => exact S.nd
                  case r => rfl
                  case l => first | exact Or.inl rfl | exact Or.inr rfl
                  case s => rfl
                  case f => first | exact Or.inl rfl | exact Or.inr rfl
                  case e => exact (pe_op op_cat (pv 2) (pe_lc (tgs := ["gate"]) (cap := []) rfl ⟨rfl, rfl, rfl, rfl, rfl, rfl⟩ (pi_list (pv 3)) (fun _ _ _ _ => (pg_name (i := 0) (show List.Nodup [("gate" : Str)] by decide +kernel) rfl (by first | exact Or.inl rfl | exact Or.inr rfl))) (fun _ _ _ _ => pifs_nil) (fun _ _ _ _ => (pe_ix (ix_tupK (K := K) rfl) (pv 0) pe_int (fun _ _ => rfl)))))
                case r13 =>
                  with_reducible refine' pss_cons ?s15 ?r15
                  case s15 =>
                    with_reducible refine' ps_if ?c16 ?a16 ?o16
                    case c16 => exact (pt_cmpR op_eq (pv 4) pe_int (nomark _))
                    case a16 =>
                      with_reducible refine' pss_one ?s17
                      case s17 =>
                        exact (ps_asg (pe_tup (pa_cons (pv 6) (pa_cons (pe_fn f_law_bent (hr.mono (by first | decide | omega)) (by rfl) (pa_cons (pv 0) (pa_cons (pv 7) pa_nil se_name) se_name)) pa_nil se_call) se_name)) (pg_sub (pv 3) (pv 5) set_list))
                    case o16 =>
                      exact pss_nil
                  case r15 =>
                    with_reducible refine' pss_cons ?s19 ?r19
                    case s19 =>
                      with_reducible refine' ps_if ?c20 ?a20 ?o20
                      case c20 => exact (pt_cmpR op_eq (pv 4) pe_int (nomark _))
                      case a20 =>
                        with_reducible refine' pss_one ?s21
                        case s21 =>
                          exact (ps_asg (pe_tup (pa_cons (pe_fn f_law_odd (hr.mono (by first | decide | omega)) (by rfl) (pa_cons (pv 0) (pa_cons (pv 6) pa_nil se_name) se_name)) (pa_cons (pv 7) pa_nil se_name) se_call)) (pg_sub (pv 3) (pv 5) set_list))
                      case o20 =>
                        exact pss_nil
                    case r19 =>
                      with_reducible refine' pss_cons ?s23 ?r23
                      case s23 =>
                        with_reducible refine' ps_if ?c24 ?a24 ?o24
                        case c24 => exact (pt_cmpR op_eq (pv 4) pe_int (nomark _))
                        case a24 =>
                          with_reducible refine' pss_one ?s25
                          case s25 =>
                            exact (ps_asg (pe_ix ix_list (pe_lst (pa_cons (pe_lst (pa_cons (pv 6) (pa_cons (pv 7) pa_nil se_name) se_name)) (pa_cons (pe_tup (pa_cons (pv 6) pa_nil se_name)) (pa_cons (pe_tup (pa_cons (pv 6) (pa_cons (pv 7) (pa_cons pe_int pa_nil se_con) se_name) se_name)) (pa_cons pe_non (pa_cons (pe_tup (pa_cons (pv 7) (pa_cons (pv 6) pa_nil se_name) se_name)) (pa_cons (pv 6) pa_nil se_name) se_tup) se_con) se_tup) se_tup) se_lst)) (pe_fn f_law_draw (hr.mono (by first | decide | omega)) (by rfl) (pa_cons (pv 0) (pa_cons pe_int pa_nil se_con) se_name)) (fun _ _ => rfl)) (pg_sub (pv 3) (pv 5) set_list))
                        case o24 =>
                          exact pss_nil
                      case r23 =>
                        with_reducible refine' pss_cons ?s27 ?r27
                        case s27 =>
                          with_reducible refine' ps_if ?c28 ?a28 ?o28
                          case c28 => exact (pt_cmpR op_eq (pv 4) pe_int (nomark _))
                          case a28 =>
                            with_reducible refine' pss_cons ?s29 ?r29
                            case s29 =>
                              refine' ps_set (i := 9) ?n ?r ?l ?e ?s ?f
                              case n => exact S.nd
                              case r => rfl
                              case l => first | exact Or.inl rfl | exact Or.inr rfl
                              case s => rfl
                              case f => first | exact Or.inl rfl | exact Or.inr rfl
                              case e =>
                                with_reducible refine' pe_ix ?r31 ?v31 ?b31 ?p31
                                case r31 => exact ix_list
                                case p31 => exact (fun _ _ => rfl)
                                case v31 =>
                                  with_reducible refine' pe_lst ?a32
                                  case a32 =>
                                    with_reducible refine' pa_cons ?e33 ?s33 se_sub
                                    case e33 =>
                                      with_reducible refine' pe_ix ?r34 ?v34 ?b34 ?p34
                                      case r34 => exact ix_list
                                      case p34 => exact (fun _ _ => rfl)
                                      case v34 =>
                                        exact (pv 8)
                                      case b34 =>
                                        refine' pe_fn f_law_draw (hr.mono (by first | decide | omega)) (by rfl) ?a36
                                        case a36 =>
                                          with_reducible refine' pa_cons ?e37 ?s37 se_name
                                          case e37 =>
                                            exact (pv 0)
                                          case s37 =>
                                            with_reducible refine' pa_cons ?e39 ?s39 se_call
                                            case e39 =>
                                              exact (pe_callB call_len_seq (by rfl) T.n_len PySem.boot_len (pa_cons (pv 8) pa_nil se_name))
                                            case s39 =>
                                              exact pa_nil
                                    case s33 =>
                                      with_reducible refine' pa_cons ?e41 ?s41 se_con
                                      case e41 =>
                                        exact pe_str
                                      case s41 =>
                                        exact pa_nil
                                case b31 =>
                                  refine' pe_fn f_law_draw (hr.mono (by first | decide | omega)) (by rfl) ?a43
                                  case a43 =>
                                    with_reducible refine' pa_cons ?e44 ?s44 se_name
                                    case e44 =>
                                      exact (pv 0)
                                    case s44 =>
                                      with_reducible refine' pa_cons ?e46 ?s46 se_con
                                      case e46 =>
                                        exact pe_int
                                      case s46 =>
                                        exact pa_nil
                            case r29 =>
                              with_reducible refine' pss_one ?s48
                              case s48 =>
                                exact (ps_expr (pe_bm PySem.F.plainAttrs_list PySem.F.slot_list_insert PySem.F.type_list_insert mt_insertA (pv 2) (pa_cons (pe_fn f_law_draw (hr.mono (by first | decide | omega)) (by rfl) (pa_cons (pv 0) (pa_cons (pe_op op_add (pe_callB call_len_seq (by rfl) T.n_len PySem.boot_len (pa_cons (pv 2) pa_nil se_name)) pe_int) pa_nil) se_name)) (pa_cons (pv 9) pa_nil se_name) se_call)))
                          case o28 =>
                            exact pss_nil
                        case r27 =>
                          with_reducible refine' pss_cons ?s50 ?r50
                          case s50 =>
                            with_reducible refine' ps_if ?c51 ?a51 ?o51
                            case c51 => exact (pt_cmpR op_eq (pv 4) pe_int (nomark _))
                            case a51 =>
                              with_reducible refine' pss_one ?s52
                              case s52 =>
                                exact (ps_expr (pe_bm PySem.F.plainAttrs_list PySem.F.slot_list_insert PySem.F.type_list_insert mt_insertA (pv 2) (pa_cons (pe_fn f_law_draw (hr.mono (by first | decide | omega)) (by rfl) (pa_cons (pv 0) (pa_cons (pe_op op_add (pe_callB call_len_seq (by rfl) T.n_len PySem.boot_len (pa_cons (pv 2) pa_nil se_name)) pe_int) pa_nil) se_name)) (pa_cons (pe_fn f_law_odd (hr.mono (by first | decide | omega)) (by rfl) (pa_cons (pv 0) (pa_cons pe_str pa_nil se_con) se_name)) pa_nil se_call) se_call)))
                            case o51 =>
                              exact pss_nil
                          case r50 =>
                            with_reducible refine' pss_cons ?s54 ?r54
                            case s54 =>
                              with_reducible refine' ps_if ?c55 ?a55 ?o55
                              case c55 => exact (pt_cmpR op_eq (pv 4) pe_int (nomark _))
                              case a55 =>
                                with_reducible refine' pss_cons ?s56 ?r56
                                case s56 =>
                                  refine' ps_set (i := 9) ?n ?r ?l ?e ?s ?f
                                  case n => exact S.nd
                                  case r => rfl
                                  case l => first | exact Or.inl rfl | exact Or.inr rfl
                                  case s => rfl
                                  case f => first | exact Or.inl rfl | exact Or.inr rfl
                                  case e =>
                                    with_reducible refine' pe_ix ?r58 ?v58 ?b58 ?p58
                                    case r58 => exact ix_list
                                    case p58 => exact (fun _ _ => rfl)
                                    case v58 =>
                                      with_reducible refine' pe_lst ?a59
                                      case a59 =>
                                        with_reducible refine' pa_cons ?e60 ?s60 se_sub
                                        case e60 =>
                                          with_reducible refine' pe_ix ?r61 ?v61 ?b61 ?p61
                                          case r61 => exact ix_list
                                          case p61 => exact (fun _ _ => rfl)
                                          case v61 =>
                                            exact (pv 3)
                                          case b61 =>
                                            refine' pe_fn f_law_draw (hr.mono (by first | decide | omega)) (by rfl) ?a63
                                            case a63 =>
                                              with_reducible refine' pa_cons ?e64 ?s64 se_name
                                              case e64 =>
                                                exact (pv 0)
                                              case s64 =>
                                                with_reducible refine' pa_cons ?e66 ?s66 se_call
                                                case e66 =>
                                                  exact (pe_callB call_len_seq (by rfl) T.n_len PySem.boot_len (pa_cons (pv 3) pa_nil se_name))
                                                case s66 =>
                                                  exact pa_nil
                                        case s60 =>
                                          with_reducible refine' pa_cons ?e68 ?s68 se_tup
                                          case e68 =>
                                            with_reducible refine' pe_tup ?a69
                                            case a69 =>
                                              with_reducible refine' pa_cons ?e70 ?s70 se_con
                                              case e70 =>
                                                exact pe_str
                                              case s70 =>
                                                with_reducible refine' pa_cons ?e72 ?s72 se_name
                                                case e72 =>
                                                  exact (pv 7)
                                                case s72 =>
                                                  exact pa_nil
                                          case s68 =>
                                            exact pa_nil
                                    case b58 =>
                                      refine' pe_fn f_law_draw (hr.mono (by first | decide | omega)) (by rfl) ?a74
                                      case a74 =>
                                        with_reducible refine' pa_cons ?e75 ?s75 se_name
                                        case e75 =>
                                          exact (pv 0)
                                        case s75 =>
                                          with_reducible refine' pa_cons ?e77 ?s77 se_con
                                          case e77 =>
                                            exact pe_int
                                          case s77 =>
                                            exact pa_nil
                                case r56 =>
                                  with_reducible refine' pss_one ?s79
                                  case s79 =>
                                    exact (ps_expr (pe_bm PySem.F.plainAttrs_list PySem.F.slot_list_insert PySem.F.type_list_insert mt_insertA (pv 3) (pa_cons (pe_fn f_law_draw (hr.mono (by first | decide | omega)) (by rfl) (pa_cons (pv 0) (pa_cons (pe_op op_add (pe_callB call_len_seq (by rfl) T.n_len PySem.boot_len (pa_cons (pv 3) pa_nil se_name)) pe_int) pa_nil) se_name)) (pa_cons (pv 9) pa_nil se_name) se_call)))
                              case o55 =>
                                exact pss_nil
                            case r54 =>
                              with_reducible refine' pss_cons ?s81 ?r81
                              case s81 =>
                                with_reducible refine' ps_if ?c82 ?a82 ?o82
                                case c82 => exact (pt_cmpR op_eq (pv 4) pe_int (nomark _))
                                case a82 =>
                                  with_reducible refine' pss_one ?s83
                                  case s83 =>
                                    exact (ps_expr (pe_bm PySem.F.plainAttrs_list PySem.F.slot_list_pop PySem.F.type_list_pop mt_popAt (pv 3) (pa_cons (pv 5) pa_nil se_name)))
                                case o82 =>
                                  exact pss_nil
                              case r81 =>
                                with_reducible refine' pss_cons ?s85 ?r85
                                case s85 =>
                                  with_reducible refine' ps_if ?c86 ?a86 ?o86
                                  case c86 => exact (PW.pt (pw_and (pt_cmpR op_eq (pv 4) pe_int (nomark _)) (pw_and1 (pt_cmpR (op_neL hr.units) (pv 2) (pe_lst pa_nil) (nomark _)))))
                                  case a86 =>
                                    with_reducible refine' pss_one ?s87
                                    case s87 =>
                                      exact (ps_expr (pe_bm PySem.F.plainAttrs_list PySem.F.slot_list_pop PySem.F.type_list_pop mt_popAt (pv 2) (pa_cons (pe_fn f_law_draw (hr.mono (by first | decide | omega)) (by rfl) (pa_cons (pv 0) (pa_cons (pe_callB call_len_seq (by rfl) T.n_len PySem.boot_len (pa_cons (pv 2) pa_nil se_name)) pa_nil se_call) se_name)) pa_nil se_call)))
                                  case o86 =>
                                    exact pss_nil
                                case r85 =>
                                  with_reducible refine' pss_cons ?s89 ?r89
                                  case s89 =>
                                    with_reducible refine' ps_if ?c90 ?a90 ?o90
                                    case c90 => exact (pt_cmpR op_eq (pv 4) pe_int (nomark _))
                                    case a90 =>
                                      with_reducible refine' pss_cons ?s91 ?r91
                                      case s91 =>
                                        refine' ps_set (i := 10) ?n ?r ?l ?e ?s ?f
                                        case n => exact S.nd
                                        case r => rfl
                                        case l => first | exact Or.inl rfl | exact Or.inr rfl
                                        case s => rfl
                                        case f => first | exact Or.inl rfl | exact Or.inr rfl
                                        case e =>
                                          with_reducible refine' pe_lst ?a93
                                          case a93 =>
                                            with_reducible refine' pa_cons ?e94 ?s94 se_lst
                                            case e94 =>
                                              with_reducible refine' pe_lst ?a95
                                              case a95 =>
                                                with_reducible refine' pa_cons ?e96 ?s96 se_name
                                                case e96 =>
                                                  exact (pv 2)
                                                case s96 =>
                                                  with_reducible refine' pa_cons ?e98 ?s98 se_name
                                                  case e98 =>
                                                    exact (pv 3)
                                                  case s98 =>
                                                    exact pa_nil
                                            case s94 =>
                                              with_reducible refine' pa_cons ?e100 ?s100 se_tup
                                              case e100 =>
                                                with_reducible refine' pe_tup ?a101
                                                case a101 =>
                                                  with_reducible refine' pa_cons ?e102 ?s102 se_name
                                                  case e102 =>
                                                    exact (pv 2)
                                                  case s102 =>
                                                    exact pa_nil
                                              case s100 =>
                                                with_reducible refine' pa_cons ?e104 ?s104 se_tup
                                                case e104 =>
                                                  with_reducible refine' pe_tup ?a105
                                                  case a105 =>
                                                    with_reducible refine' pa_cons ?e106 ?s106 se_name
                                                    case e106 =>
                                                      exact (pv 2)
                                                    case s106 =>
                                                      with_reducible refine' pa_cons ?e108 ?s108 se_name
                                                      case e108 =>
                                                        exact (pv 3)
                                                      case s108 =>
                                                        with_reducible refine' pa_cons ?e110 ?s110 se_con
                                                        case e110 =>
                                                          exact pe_int
                                                        case s110 =>
                                                          exact pa_nil
                                                case s104 =>
                                                  with_reducible refine' pa_cons ?e112 ?s112 se_tup
                                                  case e112 =>
                                                    with_reducible refine' pe_tup ?a113
                                                    case a113 =>
                                                      with_reducible refine' pa_cons ?e114 ?s114 se_call
                                                      case e114 =>
                                                        exact (pe_callTy call_tuple_of (by rfl) T.n_tuple PyProof.Rows.boot_tuple (pa_cons (pv 2) pa_nil se_name))
                                                      case s114 =>
                                                        with_reducible refine' pa_cons ?e116 ?s116 se_name
                                                        case e116 =>
                                                          exact (pv 3)
                                                        case s116 =>
                                                          exact pa_nil
                                                  case s112 =>
                                                    exact pa_nil
                                      case r91 =>
                                        with_reducible refine' pss_cons ?s118 ?r118
                                        case s118 =>
                                          refine' ps_set (i := 10) ?n ?r ?l ?e ?s ?f
                                          case n => exact S.nd
                                          case r => rfl
                                          case l => first | exact Or.inl rfl | exact Or.inr rfl
                                          case s => rfl
                                          case f => first | exact Or.inl rfl | exact Or.inr rfl
                                          case e =>
                                            with_reducible refine' pe_op op_cat ?l120 ?q120
                                            case l120 =>
                                              exact (pv 10)
                                            case q120 =>
                                              with_reducible refine' pe_lst ?a122
                                              case a122 =>
                                                with_reducible refine' pa_cons ?e123 ?s123 se_tup
                                                case e123 =>
                                                  with_reducible refine' pe_tup ?a124
                                                  case a124 =>
                                                    with_reducible refine' pa_cons ?e125 ?s125 se_name
                                                    case e125 =>
                                                      exact (pv 2)
                                                    case s125 =>
                                                      with_reducible refine' pa_cons ?e127 ?s127 se_call
                                                      case e127 =>
                                                        exact (pe_callTy call_tuple_of (by rfl) T.n_tuple PyProof.Rows.boot_tuple (pa_cons (pv 3) pa_nil se_name))
                                                      case s127 =>
                                                        exact pa_nil
                                                case s123 =>
                                                  with_reducible refine' pa_cons ?e129 ?s129 se_tup
                                                  case e129 =>
                                                    with_reducible refine' pe_tup ?a130
                                                    case a130 =>
                                                      with_reducible refine' pa_cons ?e131 ?s131 se_name
                                                      case e131 =>
                                                        exact (pv 3)
                                                      case s131 =>
                                                        with_reducible refine' pa_cons ?e133 ?s133 se_name
                                                        case e133 =>
                                                          exact (pv 2)
                                                        case s133 =>
                                                          exact pa_nil
                                                  case s129 =>
                                                    with_reducible refine' pa_cons ?e135 ?s135 se_tup
                                                    case e135 =>
                                                      with_reducible refine' pe_tup ?a136
                                                      case a136 =>
                                                        with_reducible refine' pa_cons ?e137 ?s137 se_con
                                                        case e137 =>
                                                          exact pe_non
                                                        case s137 =>
                                                          with_reducible refine' pa_cons ?e139 ?s139 se_name
                                                          case e139 =>
                                                            exact (pv 3)
                                                          case s139 =>
                                                            exact pa_nil
                                                    case s135 =>
                                                      with_reducible refine' pa_cons ?e141 ?s141 se_tup
                                                      case e141 =>
                                                        with_reducible refine' pe_tup ?a142
                                                        case a142 =>
                                                          with_reducible refine' pa_cons ?e143 ?s143 se_name
                                                          case e143 =>
                                                            exact (pv 2)
                                                          case s143 =>
                                                            with_reducible refine' pa_cons ?e145 ?s145 se_con
                                                            case e145 =>
                                                              exact pe_non
                                                            case s145 =>
                                                              exact pa_nil
                                                      case s141 =>
                                                        exact pa_nil
                                        case r118 =>
                                          with_reducible refine' pss_cons ?s147 ?r147
                                          case s147 =>
                                            refine' ps_set (i := 10) ?n ?r ?l ?e ?s ?f
                                            case n => exact S.nd
                                            case r => rfl
                                            case l => first | exact Or.inl rfl | exact Or.inr rfl
                                            case s => rfl
                                            case f => first | exact Or.inl rfl | exact Or.inr rfl
                                            case e =>
                                              with_reducible refine' pe_op op_cat ?l149 ?q149
                                              case l149 =>
                                                exact (pv 10)
                                              case q149 =>
                                                with_reducible refine' pe_lst ?a151
                                                case a151 =>
                                                  with_reducible refine' pa_cons ?e152 ?s152 se_tup
                                                  case e152 =>
                                                    with_reducible refine' pe_tup ?a153
                                                    case a153 =>
                                                      with_reducible refine' pa_cons ?e154 ?s154 se_call
                                                      case e154 =>
                                                        exact (pe_bm PySem.F.plainAttrs_str PySem.F.slot_str_join PySem.F.type_str_join mt_join pe_str (pa_cons (pv 2) pa_nil se_name))
                                                      case s154 =>
                                                        with_reducible refine' pa_cons ?e156 ?s156 se_name
                                                        case e156 =>
                                                          exact (pv 3)
                                                        case s156 =>
                                                          exact pa_nil
                                                  case s152 =>
                                                    with_reducible refine' pa_cons ?e158 ?s158 se_tup
                                                    case e158 =>
                                                      with_reducible refine' pe_tup ?a159
                                                      case a159 =>
                                                        with_reducible refine' pa_cons ?e160 ?s160 se_dict
                                                        case e160 =>
                                                          exact pe_dnewK
                                                        case s160 =>
                                                          with_reducible refine' pa_cons ?e162 ?s162 se_name
                                                          case e162 =>
                                                            exact (pv 3)
                                                          case s162 =>
                                                            exact pa_nil
                                                    case s158 =>
                                                      with_reducible refine' pa_cons ?e164 ?s164 se_tup
                                                      case e164 =>
                                                        with_reducible refine' pe_tup ?a165
                                                        case a165 =>
                                                          with_reducible refine' pa_cons ?e166 ?s166 se_name
                                                          case e166 =>
                                                            exact (pv 2)
                                                          case s166 =>
                                                            with_reducible refine' pa_cons ?e168 ?s168 se_dict
                                                            case e168 =>
                                                              exact pe_dnewK
                                                            case s168 =>
                                                              exact pa_nil
                                                      case s164 =>
                                                        with_reducible refine' pa_cons ?e170 ?s170 se_tup
                                                        case e170 =>
                                                          with_reducible refine' pe_tup ?a171
                                                          case a171 =>
                                                            with_reducible refine' pa_cons ?e172 ?s172 se_name
                                                            case e172 =>
                                                              exact (pv 2)
                                                            case s172 =>
                                                              with_reducible refine' pa_cons ?e174 ?s174 se_call
                                                              case e174 =>
                                                                exact (pe_bm PySem.F.plainAttrs_str PySem.F.slot_str_join PySem.F.type_str_join mt_join pe_str (pa_cons (pv 2) pa_nil se_name))
                                                              case s174 =>
                                                                exact pa_nil
                                                        case s170 =>
                                                          exact pa_nil
                                          case r147 =>
                                            with_reducible refine' pss_one ?s176
                                            case s176 =>
                                              exact (ps_ret (pe_ix ix_list (pv 10) (pe_fn f_law_draw (hr.mono (by first | decide | omega)) (by rfl) (pa_cons (pv 0) (pa_cons pe_int pa_nil se_con) se_name)) (fun _ _ => rfl)))
                                    case o90 =>
                                      exact pss_nil
                                  case r89 =>
                                    with_reducible refine' pss_one ?s178
                                    case s178 =>
                                      exact (ps_ret (pe_tup (pa_cons (pv 2) (pa_cons (pv 3) pa_nil se_name) se_name)))
    try dsimp only [cxOf, Cx.nox, Cx.wish]
    rw [show L2.start ["deck", "net", "inputs", "gates", "way", "at", "name", "rule", "names", "more", "some"] [V.ref D.d, V.ref a] = [some (.ref D.d), some (.ref a), none, none, none, none, none, none, none, none, none] from rfl]
    repeat walk_at "vc"
    refine ⟨a, li, lg, ins, gvs, gs, rfl, NA, fun a' li' lg' H1 S1 na nli nlg NA1 => ?_⟩
    refine ⟨a', _, rfl, SqT.of NA1.ha, rfl, ⟨_, _, rfl, s_name ⟨_, _, rfl, s_name ⟨rfl, ?_⟩⟩⟩⟩
    have gl := paired_len NA.gates
    have ne : li' ≠ lg' := fun z => by
      have h1 := NA1.hi
      rw [z, NA1.hg] at h1
      injection h1 with h1
      injection h1 with h1
      have hx : 0 < gvs.length := by omega
      obtain ⟨b, eb⟩ := gates_refs NA.gates gvs[0] (List.getElem_mem hx)
      have : gvs[0] ∈ ins.map V.str := by rw [← h1]; exact List.getElem_mem hx
      rw [eb] at this
      obtain ⟨z, _, e⟩ := List.mem_map.mp this
      cases e
    have no1 : ¬ D.own li' := notOwn_fresh DA nli
    have no2 : ¬ D.own lg' := notOwn_fresh DA nlg
    obtain ⟨O, hO⟩ : ∃ O : Addr → Prop, O = fun b => D.own b ∨ b = li' ∨ b = lg' := ⟨_, rfl⟩
    have o1 : O li' := by rw [hO]; exact .inr (.inl rfl)
    have o2 : O lg' := by rw [hO]; exact .inr (.inr rfl)
    have oa1 : OL D O H1 := ⟨fun b h => by rw [hO]; exact .inl h, fun b h => by
      rw [hO] at h
      rcases h with h | h | h
      · exact (DA.same S1).ol.lst b h
      · rw [h]; exact ⟨_, NA1.hi⟩
      · rw [h]; exact ⟨_, NA1.hg⟩⟩
    clear hO
    have k01 := Kp.of DA S1
    have sub := oa1.sub
    have fin : ∀ (H' : Hp) (xs ys : List V) (ts us : List Tr) (σ : St), σ[2]? = some (some (.ref li')) → σ[3]? = some (some (.ref lg')) → Kp D H H' → H' li' = some (.lst xs) → All2 O H' 15 xs ts → xs.length ≤ 100 → H' lg' = some (.lst ys) → All2 O H' 15 ys us → ys.length ≤ 100 →
        tRet (tTup (tCons (tVar 2) (tCons (tVar 3) tNil))) { nx := fun _ H' => Q V.non H', rt := Q } σ H' := fun H' xs ys ts us σ e2 e3 k hx ax lx hy ay ly => by
      refine s_ret (i_tup (i_cons (i_var e2 (i_cons (i_var e3 (i_nil ⟨by show 2 ≤ _; omega, fun p hp => ?_⟩))))))
      have Sp := fresh_same (o := .tup [.ref li', .ref lg']) hp
      have k' := k.trans (Kp.of k.dk Sp)
      have ax' : All2 D.own _ 15 xs ts := ⟨ax.1, fun j x t e1 e2 => ((ax.2 j x t e1 e2).less sub).keep (.of Sp)⟩
      have ay' : All2 D.own _ 15 ys us := ⟨ay.1, fun j x t e1 e2 => ((ay.2 j x t e1 e2).less sub).keep (.of Sp)⟩
      exact q (.ref p) _ _ k' ((Is.ofT (n := 16) (notOwnT k'.dk upd_same) upd_same (.cons (Is.ofL no1 (Sp _ _ hx) ax' lx) (.cons (Is.ofL no2 (Sp _ _ hy) ay' ly) .nil)) (by simp)).up (by decide))
    have iz : ∀ {H'}, All2 O H' 15 (ins.map V.str) (ins.map Tr.str) := fun {H'} => strs_all (net_ins ok)
    repeat walk_at "vc"
    refine ⟨D, 12, rfl, k01.dk, by decide, by decide, fun way H2 w0 w12 k2 => ?_⟩
    have k02 := k01.trans k2
    have NA2 := NA1.kp k01.dk k2
    have NB2 := (NA.same S1).kp k01.dk k2
    repeat walk_at "vc"
    refine ite2 (fun c8 => ?_) (fun c8 => ?_)
    · repeat walk_at "vc"
      exact ⟨D, a, li, lg, ins, gvs, gs, rfl, k02.dk, NB2, nq, fun v t H' k' i' => q v t H' (k02.trans k') (i'.up (by decide))⟩
    have w8 : way ≤ 8 := by
      have := of_decide_eq_false (Bool.not_eq_true _ ▸ c8)
      omega
    have hlg2 := NA2.hg
    repeat walk_at "vc"
    refine ⟨D, _, rfl, k02.dk, by omega, by omega, fun at1 H3 a0 a1 k3 => ?_⟩
    have k03 := k02.trans k3
    have NA3 := NA2.kp k02.dk k3
    have oa3 : OL D O H3 := (oa1.kp k2).kp k3
    obtain ⟨j, rfl⟩ : ∃ n : Nat, at1 = n := ⟨at1.toNat, by omega⟩
    have hj : j < gvs.length := by omega
    obtain ⟨ha3, hi3, hg3, gts3⟩ := id NA3
    have ex : gvs[j]? = some gvs[j] := List.getElem?_eq_getElem hj
    obtain ⟨g, eg, b, rv, egb, hb, hrv⟩ := paired_at gts3 j _ ex
    obtain ⟨gs1, gs2, gs3⟩ := net_rules ok g (List.mem_of_getElem? eg)
    repeat walk_at "vc"
    refine i_ixL (SqL.of hg3) (atI_nat ex) ?_
    rw [egb]
    refine ⟨b, _, rfl, SqT.of hb, rfl, ⟨_, _, rfl, s_name ⟨_, _, rfl, s_name ⟨rfl, ?_⟩⟩⟩⟩
    repeat walk_at "vc"
    refine i_comp (s_list ?_)
    repeat walk_at "vc"
    refine ⟨lg', rfl, ⟨_, SqL.of hg3⟩, fun L hL => ?_⟩
    refine comp_list (xs := gvs) (fun m H' ys => Same H3 H' ∧ H' L = some (.lst ys) ∧ ys = ((gs.take m).map (·.1)).map V.str) ⟨fresh_same hL, upd_same, rfl⟩ (fun m H' ys p => ⟨p.2.1, SqL.of (p.1 _ _ hg3)⟩) (fun m x H' ys e p => ?_) (fun H4 ys p => ?_)
    · obtain ⟨Sm, hd, rfl⟩ := p
      have hn : m < gvs.length := (List.getElem?_eq_some_iff.mp e).1
      obtain ⟨g', eg', b', rv', rfl, hb', _⟩ := paired_at gts3 m x e
      have hb'' := Sm _ _ hb'
      refine s_name ⟨trivial, i_yes (iteT ?_)⟩
      repeat walk_at "vc"
      refine NextC.mk hd hn (by rw [List.length_map, List.length_map, List.length_take]; omega) ⟨same_upd Sm hL, upd_same, ?_⟩
      rw [List.take_succ, eg', List.map_append, List.map_append]; rfl
    obtain ⟨S4, h4, rfl⟩ := p
    rw [gl, List.take_length] at h4
    refine i_cat (S4 _ _ hi3) h4 (by rw [List.length_map, List.length_map, List.length_map]; omega) fun pn hpn => ?_
    rw [wires_map]
    generalize hE : upd H4 pn _ = H5
    obtain ⟨S5, q5⟩ := upd_pair hpn hE
    clear hE
    have S35 := S4.trans S5
    have k05 := k03.trans (Kp.of k03.dk S35)
    have oa := oa3.same S35
    have hi5 := S35 _ _ hi3
    have hg5 := S35 _ _ hg3
    have gts5 := gates_mono (Same.tups S35) gts3
    have ag5 : All2 O H5 15 gvs (gs.map trG) := (gates_all (m := 10) oa gts5 (net_rules ok)).up (by decide)
    have hrv5 : RAt H5 rv g.2 := hrv.mono (Same.tups S35)
    have irv : Is O H5 10 rv (trR g.2) := (rl_is oa hrv5 gs1).up gs2
    have inm : Is O H5 0 (.str g.1) (.str g.1) := .str gs3
    have wl : (wiresN ins gs).length = ins.length + gs.length := by unfold wiresN; rw [List.length_append, List.length_map]
    have wz : ∀ n ∈ wiresN ins gs, n.length ≤ 1000 := fun n hn => by have := (ok.low n hn).l8; omega
    have lim : (ins.map V.str).length = ins.length := List.length_map _
    have npn : pn ≠ li' := ne_of_none (S4 _ _ hi3) hpn |>.symm
    have npn2 : pn ≠ lg' := ne_of_none (S4 _ _ hg3) hpn |>.symm
    have DA5 := k05.dk
    clear h4 hL hpn S4 S5 S35 hb hg3 hi3 ha3 NA3 NA2 NB2 NA1 k01 k02 k03 k2 k3 gts3 hrv oa3 oa1 hlg2 S1
    have hw : way = 0 ∨ way = 1 ∨ way = 2 ∨ way = 3 ∨ way = 4 ∨ way = 5 ∨ way = 6 ∨ way = 7 ∨ way = 8 := by omega
    rcases hw with rfl | rfl | rfl | rfl | rfl | rfl | rfl | rfl | rfl
    · -- a rule bent
      repeat walk_at "vc"
      refine ifT (by decide) ?_
      repeat walk_at "vc"
      refine ⟨D, O, rv, g.2, rfl, DA5, oa, hrv5, gs2, gs1, fun u t H6 k6 iu => ?_⟩
      refine i_nil ⟨by show 2 ≤ _; omega, fun p hp => ?_⟩
      generalize hE : upd H6 p _ = H7
      obtain ⟨S7, q7⟩ := upd_pair hp hE
      clear hE
      have k7 := k6.trans (Kp.of k6.dk S7)
      have oa7 := oa.kp k7
      have hg7 := k7.old _ _ hg5 no2
      have ip : Is O H7 15 (.ref p) _ := Is.ofT (oa7.tup q7) q7 (.cons (.str gs3) (.cons (iu.keep (.of S7)) .nil)) (by simp)
      repeat walk_at "vc"
      refine s_setL hg7 (ixN_nat hj) ?_
      have kF : KeepD O H7 (upd H7 lg' (.lst (gvs.set j (.ref p)))) := keepO_upd o2
      ((repeat walk_at "vc"); (refine ifF (by decide) ?_)); ((repeat walk_at "vc"); (refine ifF (by decide) ?_)); ((repeat walk_at "vc"); (refine ifF (by decide) ?_)); ((repeat walk_at "vc"); (refine ifF (by decide) ?_)); ((repeat walk_at "vc"); (refine ifF (by decide) ?_)); ((repeat walk_at "vc"); (refine ifF (by decide) ?_)); ((repeat walk_at "vc"); (refine ifF (by decide) ?_)); ((repeat walk_at "vc"); (refine ifF (by decide) ?_))
      refine s_next (fin _ _ _ _ _ _ rfl rfl (Kp.fresh DA nlg (k05.trans k7)) (by rw [upd_ne ne]; exact k7.old _ _ hi5 no1) iz (by omega) upd_same (((ag5.same (k7.keepO sub)).same kF).set (ip.keep kF) j) (by rw [List.length_set]; omega))
    · -- a name of another kind
      ((repeat walk_at "vc"); (refine ifF (by decide) ?_))
      repeat walk_at "vc"
      refine ifT (by decide) ?_
      repeat walk_at "vc"
      refine ⟨D, O, 0, _, _, rfl, DA5, oa, inm, fun u t H6 k6 iu => ?_⟩
      repeat walk_at "vc"
      refine ⟨by show 2 ≤ _; omega, fun p hp => ?_⟩
      generalize hE : upd H6 p _ = H7
      obtain ⟨S7, q7⟩ := upd_pair hp hE
      clear hE
      have k7 := k6.trans (Kp.of k6.dk S7)
      have oa7 := oa.kp k7
      have hg7 := k7.old _ _ hg5 no2
      have ip : Is O H7 15 (.ref p) _ := Is.ofT (n := 14) (oa7.tup q7) q7 (.cons ((iu.keep (.of S7)).up (by decide)) (.cons ((irv.keep (k7.keepO sub)).up (by decide)) .nil)) (by simp)
      repeat walk_at "vc"
      refine s_setL hg7 (ixN_nat hj) ?_
      have kF : KeepD O H7 (upd H7 lg' (.lst (gvs.set j (.ref p)))) := keepO_upd o2
      ((repeat walk_at "vc"); (refine ifF (by decide) ?_)); ((repeat walk_at "vc"); (refine ifF (by decide) ?_)); ((repeat walk_at "vc"); (refine ifF (by decide) ?_)); ((repeat walk_at "vc"); (refine ifF (by decide) ?_)); ((repeat walk_at "vc"); (refine ifF (by decide) ?_)); ((repeat walk_at "vc"); (refine ifF (by decide) ?_)); ((repeat walk_at "vc"); (refine ifF (by decide) ?_))
      refine s_next (fin _ _ _ _ _ _ rfl rfl (Kp.fresh DA nlg (k05.trans k7)) (by rw [upd_ne ne]; exact k7.old _ _ hi5 no1) iz (by omega) upd_same (((ag5.same (k7.keepO sub)).same kF).set (ip.keep kF) j) (by rw [List.length_set]; omega))
    · -- a gate of another kind
      ((repeat walk_at "vc"); (refine ifF (by decide) ?_)); ((repeat walk_at "vc"); (refine ifF (by decide) ?_))
      repeat walk_at "vc"
      refine ifT (by decide) ?_
      with_reducible refine s_asg ?_
      with_reducible refine i_op ?_
      have mk : ∀ (ta : TA) (σ : St) (R : VK), MkA O H5 σ 13 6 ta → (∀ p xs ts H', ¬ D.own p → Same H5 H' → H' p = some (.lst xs) → All2 O H' 13 xs ts → xs.length = 6 → R (.ref p) H') → tLst ta σ H5 R := fun ta σ R mk kR => by
        refine i_lst (mk H5 _ (Same.refl _) fun ys us H6 S6 al hl => ⟨by omega, fun l hl' => ?_⟩)
        exact kR l ys us _ (notOwn_fresh (DA5.same S6) hl') (S6.trans (fresh_same hl')) upd_same (al.same (.of (fresh_same hl'))) hl
      refine mk _ _ _ (by (repeat' (first | exact mka_nil | exact mkb_nil | exact mk_non | exact mk_int | exact mk_bl | exact mk_str (by decide +kernel) | exact mk_dct oa.al | exact mk_var rfl inm (by omega) | exact mk_var rfl irv (by omega) | (with_reducible refine mka_cons ?_ ?_) | (with_reducible refine mkb_cons ?_ ?_) | (refine mk_tup oa.al ?_) | (refine mk_lst oa.al ?_)))) fun p xs ts H6 nop S6 q6 al6 hl6 => ?_
      have k6 := Kp.of DA5 S6
      repeat walk_at "vc"
      refine ⟨D, 6, rfl, k6.dk, by decide, by decide, fun r H7 r0 r6 k7 => ?_⟩
      obtain ⟨r, rfl⟩ : ∃ n : Nat, r = n := ⟨r.toNat, by omega⟩
      have kx := k6.trans k7
      obtain ⟨x, t, ex, ix⟩ := all2_nat (al6.same (k7.keepO sub)) (j := r) (by omega)
      refine i_ixL (SqL.of (k7.old _ _ q6 nop)) ex ?_
      have hg7 := kx.old _ _ hg5 no2
      repeat walk_at "vc"
      refine s_setL hg7 (ixN_nat hj) ?_
      have kF : KeepD O H7 (upd H7 lg' (.lst (gvs.set j x))) := keepO_upd o2
      ((repeat walk_at "vc"); (refine ifF (by decide) ?_)); ((repeat walk_at "vc"); (refine ifF (by decide) ?_)); ((repeat walk_at "vc"); (refine ifF (by decide) ?_)); ((repeat walk_at "vc"); (refine ifF (by decide) ?_)); ((repeat walk_at "vc"); (refine ifF (by decide) ?_)); ((repeat walk_at "vc"); (refine ifF (by decide) ?_))
      refine s_next (fin _ _ _ _ _ _ rfl rfl (Kp.fresh DA nlg (k05.trans kx)) (by rw [upd_ne ne]; exact kx.old _ _ hi5 no1) iz (by omega) upd_same (((ag5.same (kx.keepO sub)).same kF).set ((ix.up (by decide)).keep kF) j) (by rw [List.length_set]; omega))
    · -- an input more, a name
      ((repeat walk_at "vc"); (refine ifF (by decide) ?_)); ((repeat walk_at "vc"); (refine ifF (by decide) ?_)); ((repeat walk_at "vc"); (refine ifF (by decide) ?_))
      repeat walk_at "vc"
      refine ifT (by decide) ?_
      repeat walk_at "vc"
      refine ⟨D, _, rfl, DA5, by rw [List.length_map]; omega, by rw [List.length_map]; omega, fun r H6 r0 r1 k6 => ?_⟩
      rw [List.length_map] at r1
      obtain ⟨r, rfl⟩ : ∃ n : Nat, r = n := ⟨r.toNat, by omega⟩
      have er : atI ((wiresN ins gs).map V.str) (r : Int) = some (.str ((wiresN ins gs)[r]'(by omega))) := atI_nat (by rw [List.getElem?_map, List.getElem?_eq_getElem (by omega)]; rfl)
      have npo : ¬ D.own pn := notOwn DA5 q5 (fun xs e => by cases e; exact noint_strs _)
      refine i_ixL (SqL.of (k6.old _ _ q5 npo)) er ?_
      have yz : ((wiresN ins gs)[r]'(by omega)).length ≤ 1000 := wz _ (List.getElem_mem _)
      generalize (wiresN ins gs)[r]'(by omega) = y at *
      repeat walk_at "vc"
      refine ⟨by show 2 ≤ _; omega, fun p hp => ?_⟩
      generalize hE : upd H6 p _ = H7
      obtain ⟨S7, q7⟩ := upd_pair hp hE
      clear hE
      have nop : ¬ D.own p := notOwn_fresh k6.dk hp
      have k7 := k6.trans (Kp.of k6.dk S7)
      repeat walk_at "vc"
      refine ⟨D, 2, rfl, k7.dk, by decide, by decide, fun r2 H8 r20 r22 k8 => ?_⟩
      obtain ⟨m, em, mz⟩ : ∃ m : Str, atI [V.str y, V.str "new"] r2 = some (.str m) ∧ m.length ≤ 1000 := by
        have h3 : r2 = 0 ∨ r2 = 1 := by omega
        rcases h3 with h | h
        · rw [h]; exact ⟨y, rfl, yz⟩
        · rw [h]; exact ⟨"new", rfl, by decide +kernel⟩
      refine i_ixL (SqL.of (k8.old _ _ q7 nop)) em ?_
      have kx := k7.trans k8
      have hi8 := kx.old _ _ hi5 no1
      repeat walk_at "vc"
      refine ⟨D, _, rfl, kx.dk, by omega, by omega, fun r3 H9 r30 r31 k9 => ?_⟩
      have ky := kx.trans k9
      have hi9 := ky.old _ _ hi5 no1
      obtain ⟨r3, rfl⟩ : ∃ n : Nat, r3 = n := ⟨r3.toNat, by omega⟩
      repeat walk_at "vc"
      refine ⟨li', _, _, r3, rfl, rfl, by omega, by omega, hi9, by omega, ?_⟩
      have kF : KeepD O H9 (upd H9 li' (.lst ((ins.map V.str).take r3 ++ .str m :: (ins.map V.str).drop r3))) := keepO_upd o1
      ((repeat walk_at "vc"); (refine ifF (by decide) ?_)); ((repeat walk_at "vc"); (refine ifF (by decide) ?_)); ((repeat walk_at "vc"); (refine ifF (by decide) ?_)); ((repeat walk_at "vc"); (refine ifF (by decide) ?_)); ((repeat walk_at "vc"); (refine ifF (by decide) ?_))
      refine s_next (fin _ _ _ _ _ _ rfl rfl (Kp.fresh DA nli (k05.trans ky)) upd_same (iz.ins (.str mz) r3) (by rw [List.length_append, List.length_cons, List.length_take, List.length_drop]; omega) (by rw [upd_ne ne.symm]; exact ky.old _ _ hg5 no2) ((ag5.same (ky.keepO sub)).same kF) (by omega))
    · -- an input of another kind
      ((repeat walk_at "vc"); (refine ifF (by decide) ?_)); ((repeat walk_at "vc"); (refine ifF (by decide) ?_)); ((repeat walk_at "vc"); (refine ifF (by decide) ?_)); ((repeat walk_at "vc"); (refine ifF (by decide) ?_))
      repeat walk_at "vc"
      refine ifT (by decide) ?_
      repeat walk_at "vc"
      refine ⟨D, _, rfl, DA5, by omega, by omega, fun r3 H6 r30 r31 k6 => ?_⟩
      obtain ⟨r3, rfl⟩ : ∃ n : Nat, r3 = n := ⟨r3.toNat, by omega⟩
      repeat walk_at "vc"
      refine ⟨D, O, 0, _, _, rfl, k6.dk, oa.kp k6, .str (by decide +kernel), fun u t H9 k9 iu => ?_⟩
      have ky := k6.trans k9
      have hi9 := ky.old _ _ hi5 no1
      repeat walk_at "vc"
      refine ⟨li', _, _, r3, rfl, rfl, by omega, by omega, hi9, by omega, ?_⟩
      have kF : KeepD O H9 (upd H9 li' (.lst ((ins.map V.str).take r3 ++ u :: (ins.map V.str).drop r3))) := keepO_upd o1
      ((repeat walk_at "vc"); (refine ifF (by decide) ?_)); ((repeat walk_at "vc"); (refine ifF (by decide) ?_)); ((repeat walk_at "vc"); (refine ifF (by decide) ?_)); ((repeat walk_at "vc"); (refine ifF (by decide) ?_))
      refine s_next (fin _ _ _ _ _ _ rfl rfl (Kp.fresh DA nli (k05.trans ky)) upd_same (iz.ins ((iu.keep kF).up (by decide)) r3) (by rw [List.length_append, List.length_cons, List.length_take, List.length_drop]; omega) (by rw [upd_ne ne.symm]; exact ky.old _ _ hg5 no2) ((ag5.same (ky.keepO sub)).same kF) (by omega))
    · -- a gate more
      ((repeat walk_at "vc"); (refine ifF (by decide) ?_)); ((repeat walk_at "vc"); (refine ifF (by decide) ?_)); ((repeat walk_at "vc"); (refine ifF (by decide) ?_)); ((repeat walk_at "vc"); (refine ifF (by decide) ?_)); ((repeat walk_at "vc"); (refine ifF (by decide) ?_))
      repeat walk_at "vc"
      refine ifT (by decide) ?_
      repeat walk_at "vc"
      refine ⟨D, _, rfl, DA5, by omega, by omega, fun r H6 r0 r1 k6 => ?_⟩
      obtain ⟨r, rfl⟩ : ∃ n : Nat, r = n := ⟨r.toNat, by omega⟩
      obtain ⟨x, t, ex, ix⟩ := all2_nat (ag5.same (k6.keepO sub)) (j := r) (by omega)
      refine i_ixL (SqL.of (k6.old _ _ hg5 no2)) ex ?_
      repeat walk_at "vc"
      refine ⟨by show 2 ≤ _; omega, fun p hp => ?_⟩
      generalize hE : upd H6 p _ = H7
      obtain ⟨S7, q7⟩ := upd_pair hp hE
      clear hE
      have k7 := k6.trans (Kp.of k6.dk S7)
      have ip : Is O H7 15 (.ref p) _ := Is.ofT (n := 14) ((oa.kp k7).tup q7) q7 (.cons (.str (by decide +kernel)) (.cons ((irv.keep (k7.keepO sub)).up (by decide)) .nil)) (by simp)
      repeat walk_at "vc"
      refine ⟨by show 2 ≤ _; omega, fun p8 hp8 => ?_⟩
      generalize hE : upd H7 p8 _ = H8
      obtain ⟨S8, q8⟩ := upd_pair hp8 hE
      clear hE
      have nop : ¬ D.own p8 := notOwn_fresh k7.dk hp8
      have k8 := k7.trans (Kp.of k7.dk S8)
      repeat walk_at "vc"
      refine ⟨D, 2, rfl, k8.dk, by decide, by decide, fun r2 H9 r20 r22 k9 => ?_⟩
      have kx := k8.trans k9
      obtain ⟨m, tm, em, im⟩ : ∃ m tm, atI [x, V.ref p] r2 = some m ∧ Is O H9 15 m tm := by
        have h3 : r2 = 0 ∨ r2 = 1 := by omega
        rcases h3 with h | h
        · rw [h]; exact ⟨x, t, rfl, ((ix.keep (.of S7)).keep (.of S8)).keep (k9.keepO sub)⟩
        · rw [h]; exact ⟨_, _, rfl, (ip.keep (.of S8)).keep (k9.keepO sub)⟩
      refine i_ixL (SqL.of (k9.old _ _ q8 nop)) em ?_
      have hg9 := kx.old _ _ hg5 no2
      repeat walk_at "vc"
      refine ⟨D, _, rfl, kx.dk, by omega, by omega, fun r3 H10 r30 r31 k10 => ?_⟩
      have ky := kx.trans k10
      obtain ⟨r3, rfl⟩ : ∃ n : Nat, r3 = n := ⟨r3.toNat, by omega⟩
      repeat walk_at "vc"
      refine ⟨lg', _, _, r3, rfl, rfl, by omega, by omega, ky.old _ _ hg5 no2, by omega, ?_⟩
      have kF : KeepD O H10 (upd H10 lg' (.lst (gvs.take r3 ++ m :: gvs.drop r3))) := keepO_upd o2
      ((repeat walk_at "vc"); (refine ifF (by decide) ?_)); ((repeat walk_at "vc"); (refine ifF (by decide) ?_)); ((repeat walk_at "vc"); (refine ifF (by decide) ?_))
      refine s_next (fin _ _ _ _ _ _ rfl rfl (Kp.fresh DA nlg (k05.trans ky)) (by rw [upd_ne ne]; exact ky.old _ _ hi5 no1) iz (by omega) upd_same (((ag5.same (ky.keepO sub)).same kF).ins ((im.keep (k10.keepO sub)).keep kF) r3) (by rw [List.length_append, List.length_cons, List.length_take, List.length_drop]; omega))
    · -- a gate fewer
      ((repeat walk_at "vc"); (refine ifF (by decide) ?_)); ((repeat walk_at "vc"); (refine ifF (by decide) ?_)); ((repeat walk_at "vc"); (refine ifF (by decide) ?_)); ((repeat walk_at "vc"); (refine ifF (by decide) ?_)); ((repeat walk_at "vc"); (refine ifF (by decide) ?_)); ((repeat walk_at "vc"); (refine ifF (by decide) ?_))
      repeat walk_at "vc"
      refine ifT (by decide) ?_
      repeat walk_at "vc"
      refine ⟨lg', gvs, j, j, gvs[j], rfl, rfl, hg5, by omega, by omega, (ixN_seq (ixN_nat hj)).1, ex, ?_⟩
      have kF : KeepD O H5 (upd H5 lg' (.lst (gvs.eraseIdx j))) := keepO_upd o2
      have le := List.length_eraseIdx_le gvs j
      ((repeat walk_at "vc"); (refine ifF (by decide) ?_)); ((repeat walk_at "vc"); (refine ifF (by decide) ?_))
      refine s_next (fin _ _ _ _ _ _ rfl rfl (Kp.fresh DA nlg k05) (by rw [upd_ne ne]; exact hi5) iz (by omega) upd_same ((ag5.same kF).del j) (by omega))
    · -- an input fewer
      ((repeat walk_at "vc"); (refine ifF (by decide) ?_)); ((repeat walk_at "vc"); (refine ifF (by decide) ?_)); ((repeat walk_at "vc"); (refine ifF (by decide) ?_)); ((repeat walk_at "vc"); (refine ifF (by decide) ?_)); ((repeat walk_at "vc"); (refine ifF (by decide) ?_)); ((repeat walk_at "vc"); (refine ifF (by decide) ?_)); ((repeat walk_at "vc"); (refine ifF (by decide) ?_))
      repeat walk_at "vc"
      refine ifT (by decide) ?_
      repeat walk_at "vc"
      refine ⟨by decide, fun p hp => ?_⟩
      generalize hE : upd H5 p _ = H6
      obtain ⟨S6, q6⟩ := upd_pair hp hE
      clear hE
      have k6 := Kp.of DA5 S6
      refine ⟨li', p, ins.map V.str, [], fun _ => true, rfl, rfl, SqL.of (S6 _ _ hi5), SqL.of q6, (fun j x y _ h => by simp at h), ⟨_, rfl, ?_⟩⟩
      rw [show (if true = true then !((ins.map V.str).length == ([] : List V).length && (List.range (ins.map V.str).length).all fun _ => true) else ((ins.map V.str).length == ([] : List V).length && (List.range (ins.map V.str).length).all fun _ => true)) = !(ins.map V.str).isEmpty from ne_nil_v]
      cases hem : (ins.map V.str).isEmpty
      · have lp : 0 < ins.length := by
          cases ins with
          | nil => cases hem
          | cons z zs => simp
        refine iteT ?_
        have hi6 := S6 _ _ hi5
        repeat walk_at "vc"
        refine ⟨D, _, rfl, k6.dk, by omega, by omega, fun r H7 r0 r1 k7 => ?_⟩
        obtain ⟨r, rfl⟩ : ∃ n : Nat, r = n := ⟨r.toNat, by omega⟩
        have ky := k6.trans k7
        have hr' : r < (ins.map V.str).length := by omega
        repeat walk_at "vc"
        refine ⟨li', _, r, r, _, rfl, rfl, ky.old _ _ hi5 no1, by omega, by omega, (ixN_seq (ixN_nat hr')).1, List.getElem?_eq_getElem hr', ?_⟩
        have kF : KeepD O H7 (upd H7 li' (.lst ((ins.map V.str).eraseIdx r))) := keepO_upd o1
        have le := List.length_eraseIdx_le (ins.map V.str) r
        ((repeat walk_at "vc"); (refine ifF (by decide) ?_))
        refine s_next (fin _ _ _ _ _ _ rfl rfl (Kp.fresh DA nli (k05.trans ky)) upd_same (iz.del r) (by omega) (by rw [upd_ne ne.symm]; exact ky.old _ _ hg5 no2) ((ag5.same (ky.keepO sub)).same kF) (by omega))
      · refine iteF ?_
        ((repeat walk_at "vc"); (refine ifF (by decide) ?_))
        refine s_next (fin _ _ _ _ _ _ rfl rfl (k05.trans k6) (S6 _ _ hi5) iz (by omega) (S6 _ _ hg5) (ag5.same (.of S6)) (by omega))
    · ((repeat walk_at "vc"); (refine ifF (by decide) ?_)); ((repeat walk_at "vc"); (refine ifF (by decide) ?_)); ((repeat walk_at "vc"); (refine ifF (by decide) ?_)); ((repeat walk_at "vc"); (refine ifF (by decide) ?_)); ((repeat walk_at "vc"); (refine ifF (by decide) ?_)); ((repeat walk_at "vc"); (refine ifF (by decide) ?_)); ((repeat walk_at "vc"); (refine ifF (by decide) ?_)); ((repeat walk_at "vc"); (refine ifF (by decide) ?_))
      repeat walk_at "vc"
      refine ifT (by decide) ?_
      have ii : Is D.own H5 16 (.ref li') _ := Is.ofL (n := 15) no1 hi5 (strs_all (net_ins ok)) (by omega)
      have ig : Is D.own H5 16 (.ref lg') _ := Is.ofL (n := 15) no2 hg5 ((gates_all (m := 10) DA5.ol gts5 (net_rules ok)).up (by decide)) (by omega)
      have low8 : ∀ z ∈ ins, z.length ≤ 8 := fun z hz => (ok.low z (by unfold wiresN; exact List.mem_append.mpr (.inl hz))).l8
      have init : ∀ (ta : TA) (σ : St) (R : VK), MkA D.own H5 σ 18 4 ta → (∀ p xs ts H', ¬ D.own p → Same H5 H' → H' p = some (.lst xs) → All2 D.own H' 18 xs ts → xs.length = 4 → R (.ref p) H') → tLst ta σ H5 R := fun ta σ R mk kR => by
        refine i_lst (mk H5 _ (Same.refl _) fun ys us H6 S6 al hl => ⟨by omega, fun l hl' => ?_⟩)
        exact kR l ys us _ (notOwn_fresh (DA5.same S6) hl') (S6.trans (fresh_same hl')) upd_same (al.same (.of (fresh_same hl'))) hl
      have add : ∀ (H1 : Hp) (p : Addr) (xs : List V) (ts : List Tr) (ta : TA) (σ : St) (R : VK), σ[10]? = some (some (.ref p)) → D.At H1 → H1 p = some (.lst xs) → All2 D.own H1 18 xs ts → xs.length ≤ 50 → MkA D.own H1 σ 18 4 ta →
          (∀ p' xs' ts' H', ¬ D.own p' → Same H1 H' → H' p' = some (.lst xs') → All2 D.own H' 18 xs' ts' → xs'.length = xs.length + 4 → R (.ref p') H') → tOp rCat (tVar 10) (tLst ta) σ H1 R := fun H1 p xs ts ta σ R e DA1 hp al few mk kR => by
        refine i_op (i_var e (i_lst (mk H1 _ (Same.refl H1) fun ys us H2 S2 al2 hl => ⟨by omega, fun l hl' => ?_⟩)))
        have S3 := S2.trans (fresh_same (o := .lst ys) hl')
        refine i_cat (S3 _ _ hp) upd_same (by omega) fun p' hp' => ?_
        have S4 := S3.trans (fresh_same (o := .lst (xs ++ ys)) hp')
        exact kR p' (xs ++ ys) (ts ++ us) _ (notOwn_fresh (DA1.same S3) hp') S4 upd_same (((al.same (.of S2)).app al2).same (.of ((fresh_same hl').trans (fresh_same hp')))) (by rw [List.length_append, hl])
      with_reducible refine s_seq ?_
      with_reducible refine s_asg ?_
      refine init _ _ _ ?_ fun p xs ts H6 nop S6 q6 al6 hl6 => ?_
      · (repeat' (first | exact mka_nil | exact mkb_nil | exact mk_non | exact mk_int | exact mk_bl | exact mk_str (by decide +kernel) | exact mk_dct DA5.al | exact mk_var rfl ii (by omega) | exact mk_var rfl ig (by omega) | (with_reducible refine mka_cons ?_ ?_) | (with_reducible refine mkb_cons ?_ ?_) | (refine mk_tup DA5.al ?_) | (refine mk_lst DA5.al ?_)))
        exact mk_tupleL (n := 16) DA5.al rfl hi5 (strs_all (net_ins ok)) (by omega)
      refine s_name ?_
      have DA6 := DA5.same S6
      with_reducible refine s_seq ?_
      with_reducible refine s_asg ?_
      refine add H6 p xs ts _ _ _ rfl DA6 q6 al6 (by omega) ?_ fun p7 xs7 ts7 H7 nop7 S7 q7 al7 hl7 => ?_
      · (repeat' (first | exact mka_nil | exact mkb_nil | exact mk_non | exact mk_int | exact mk_bl | exact mk_str (by decide +kernel) | exact mk_dct DA6.al | exact mk_var rfl (ii.keep (.of S6)) (by omega) | exact mk_var rfl (ig.keep (.of S6)) (by omega) | (with_reducible refine mka_cons ?_ ?_) | (with_reducible refine mkb_cons ?_ ?_) | (refine mk_tup DA6.al ?_) | (refine mk_lst DA6.al ?_)))
        exact mk_tupleL (n := 16) DA6.al rfl (S6 _ _ hg5) (((gates_all (m := 10) DA5.ol gts5 (net_rules ok)).up (by decide)).same (.of S6)) (by omega)
      refine s_name ?_
      have S57 := S6.trans S7
      have DA7 := DA5.same S57
      with_reducible refine s_seq ?_
      with_reducible refine s_asg ?_
      refine add H7 p7 xs7 ts7 _ _ _ rfl DA7 q7 al7 (by omega) ?_ fun p8 xs8 ts8 H8 nop8 S8 q8 al8 hl8 => ?_
      · (repeat' (first | exact mka_nil | exact mkb_nil | exact mk_non | exact mk_int | exact mk_bl | exact mk_str (by decide +kernel) | exact mk_dct DA7.al | exact mk_var rfl (ii.keep (.of S57)) (by omega) | exact mk_var rfl (ig.keep (.of S57)) (by omega) | (with_reducible refine mka_cons ?_ ?_) | (with_reducible refine mkb_cons ?_ ?_) | (refine mk_tup DA7.al ?_) | (refine mk_lst DA7.al ?_)))
        all_goals exact mk_join rfl (S57 _ _ hi5) low8 (by omega)
      refine s_name ?_
      have S58 := S57.trans S8
      repeat walk_at "vc"
      refine ⟨D, 12, rfl, DA5.same S58, by decide, by decide, fun r H9 r0 r1 k9 => ?_⟩
      obtain ⟨x, t, ex, ix⟩ := all2_at (al8.same k9.keepD) r0 (by omega)
      refine i_ixL (SqL.of (k9.old _ _ q8 nop8)) ex ?_
      exact q x t H9 ((k05.trans (Kp.of DA5 S58)).trans k9) (ix.up (by decide))
end
set_option Elab.async false
set_option linter.all false
set_option maxRecDepth 100000
set_option maxHeartbeats 4000000



noncomputable def spLaw (K : PySem.W.Frag) : Sp := fun vs H Q _ => ∃ (a : Addr) (ns : List Int), vs = [.ref a] ∧ SqL K H a (ns.map V.int) ∧ ns.length ≤ 63 ∧ ∀ H', Q (.bl true) H'
theorem ol_mor {D : Dk} {H : Hp} {L : Addr} {xs : List V} (DA : D.At H) (e : H L = some (.lst xs)) : OL D (mor D.own L) H := ⟨fun b h => .inl h, fun b h => by
  rcases h with h | h
  · exact DA.ol.lst b h
  · rw [h]; exact ⟨_, e⟩⟩
section
variable {P : Program} {w : World} {K : PySem.W.Frag} {mg : Str → Option Value} {base : Heap} {TT : Addr}
theorem sc_law : FnScope ["script", "deck", "k", "net", "turn", "things", "thing"] ["script"] (defScope (top 35)) := ⟨rfl, rfl, rfl, by decide +kernel, rfl, by decide +kernel, by decide +kernel⟩
theorem ok_law1 {f : Addr} {fd : FuncData} (Fu : Fun K "law" "law" (top 35) f fd) (T : Txt K mg TT) (f_law_deck : Fn P w K mg base "_law_deck" ["script"] 1 (spDeck K)) (f_law_net : Fn P w K mg base "_law_net" ["deck"] 12 spNet) (f_is_net : Fn P w K mg base "is_net" ["thing"] 12 spIsNetT) (f_law_right : Fn P w K mg base "_law_right" ["thing"] 22 spRightT) (f_law_fitting : Fn P w K mg base "_law_fitting" ["deck"] 2 spFit) (f_law_changed : Fn P w K mg base "_law_changed" ["deck", "net"] 13 spChanged) (f_law_deep_rule : Fn P w K mg base "_law_deep_rule" ["name", "deep"] 1 spDeepR) :
    FnOk P w K mg base CX0 23 f fd ["script"] (spLaw K) := by
  have S := sc_law
  refine Fu.ok S (fun vs H Q E h => ?_) (fun cdv A outer s H vs Q E hr h => ?_)
  · obtain ⟨a, ns, rfl, _⟩ := h
    rfl
  · obtain ⟨sc, cells, rfl, hS, hlen, k⟩ := h
    have big : 1000 < sizeLine := by decide
    refine' ⟨?_, ?bb, ?_⟩
    case bb =>
      refine' pss_cons ?s1 ?r1
      case s1 =>
        refine' ps_set (i := 1) ?n ?r ?l ?e ?s ?f
        case n => exact S.nd
        case r => rfl
        case l => first | exact Or.inl rfl | exact Or.inr rfl
        case s => rfl
        case f => first | exact Or.inl rfl | exact Or.inr rfl
        case e => exact (pe_fn f_law_deck (hr.mono (by first | decide | omega)) (by rfl) (pa_cons (pv 0) pa_nil se_name))
      case r1 =>
        with_reducible refine' pss_cons ?s3 ?r3
        case s3 =>
          refine' ps_for PassesOwn.never rfl ?i4 ?g4 ?b4 ?h4
          case h4 => intro _; rfl
          case i4 => exact (pi_range1 (by rfl) T.n_range (pa_cons pe_int pa_nil se_con))
          case g4 => exact (pg_name (i := 2) S.nd rfl (by first | exact Or.inl rfl | exact Or.inr rfl))
          case b4 =>
            with_reducible refine' pss_cons ?s5 ?r5
            case s5 =>
              refine' ps_set (i := 3) ?n ?r ?l ?e ?s ?f
              case n => exact S.nd
              case r => rfl
              case l => first | exact Or.inl rfl | exact Or.inr rfl
              case s => rfl
              case f => first | exact Or.inl rfl | exact Or.inr rfl
              case e => exact (pe_fn f_law_net (hr.mono (by first | decide | omega)) (by rfl) (pa_cons (pv 1) pa_nil se_name))
            case r5 =>
              with_reducible refine' pss_cons ?s7 ?r7
              case s7 =>
                with_reducible refine' ps_if ?c8 ?a8 ?o8
                case c8 => exact (PW.pt (pw_or (pt_cmpR op_notB (pe_fn f_is_net (hr.mono (by first | decide | omega)) (by rfl) (pa_cons (pv 3) pa_nil se_name)) pe_bl rfl) (pw_or1 (pt_not (pt_val (pe_fn f_law_right (hr.mono (by first | decide | omega)) (by rfl) (pa_cons (pv 3) pa_nil se_name)))))))
                case a8 =>
                  with_reducible refine' pss_one ?s9
                  case s9 =>
                    exact (ps_ret pe_bl)
                case o8 =>
                  exact pss_nil
              case r7 =>
                with_reducible refine' pss_cons ?s11 ?r11
                case s11 =>
                  with_reducible refine' ps_if ?c12 ?a12 ?o12
                  case c12 => exact (PW.pt (pw_or (pt_not (pt_val (pe_fn f_law_right (hr.mono (by first | decide | omega)) (by rfl) (pa_cons (pe_fn f_law_fitting (hr.mono (by first | decide | omega)) (by rfl) (pa_cons (pv 1) pa_nil se_name)) pa_nil se_call)))) (pw_or1 (pt_not (pt_val (pe_fn f_law_right (hr.mono (by first | decide | omega)) (by rfl) (pa_cons (pe_fn f_law_fitting (hr.mono (by first | decide | omega)) (by rfl) (pa_cons (pv 1) pa_nil se_name)) pa_nil se_call)))))))
                  case a12 =>
                    with_reducible refine' pss_one ?s13
                    case s13 =>
                      exact (ps_ret pe_bl)
                  case o12 =>
                    exact pss_nil
                case r11 =>
                  with_reducible refine' pss_one ?s15
                  case s15 =>
                    refine' ps_for PassesOwn.never rfl ?i16 ?g16 ?b16 ?h16
                    case h16 => intro _; rfl
                    case i16 => exact (pi_range1 (by rfl) T.n_range (pa_cons pe_int pa_nil se_con))
                    case g16 => exact (pg_name (i := 4) S.nd rfl (by first | exact Or.inl rfl | exact Or.inr rfl))
                    case b16 =>
                      with_reducible refine' pss_one ?s17
                      case s17 =>
                        with_reducible refine' ps_if ?c18 ?a18 ?o18
                        case c18 => exact (pt_not (pt_val (pe_fn f_law_right (hr.mono (by first | decide | omega)) (by rfl) (pa_cons (pe_fn f_law_changed (hr.mono (by first | decide | omega)) (by rfl) (pa_cons (pv 1) (pa_cons (pv 3) pa_nil se_name) se_name)) pa_nil se_call))))
                        case a18 =>
                          with_reducible refine' pss_one ?s19
                          case s19 =>
                            exact (ps_ret pe_bl)
                        case o18 =>
                          exact pss_nil
        case r3 =>
          with_reducible refine' pss_cons ?s21 ?r21
          case s21 =>
            refine' ps_set (i := 5) ?n ?r ?l ?e ?s ?f
            case n => exact S.nd
            case r => rfl
            case l => first | exact Or.inl rfl | exact Or.inr rfl
            case s => rfl
            case f => first | exact Or.inl rfl | exact Or.inr rfl
            case e =>
              with_reducible refine' pe_lst ?a23
              case a23 =>
                with_reducible refine' pa_cons ?e24 ?s24 se_con
                case e24 =>
                  exact pe_non
                case s24 =>
                  with_reducible refine' pa_cons ?e26 ?s26 se_con
                  case e26 =>
                    exact pe_int
                  case s26 =>
                    with_reducible refine' pa_cons ?e28 ?s28 se_con
                    case e28 =>
                      exact pe_str
                    case s28 =>
                      with_reducible refine' pa_cons ?e30 ?s30 se_tup
                      case e30 =>
                        with_reducible refine' pe_tup ?a31
                        case a31 =>
                          exact pa_nil
                      case s30 =>
                        with_reducible refine' pa_cons ?e32 ?s32 se_lst
                        case e32 =>
                          with_reducible refine' pe_lst ?a33
                          case a33 =>
                            exact pa_nil
                        case s32 =>
                          with_reducible refine' pa_cons ?e34 ?s34 se_dict
                          case e34 =>
                            exact pe_dnewK
                          case s34 =>
                            with_reducible refine' pa_cons ?e36 ?s36 se_tup
                            case e36 =>
                              with_reducible refine' pe_tup ?a37
                              case a37 =>
                                with_reducible refine' pa_cons ?e38 ?s38 se_lst
                                case e38 =>
                                  with_reducible refine' pe_lst ?a39
                                  case a39 =>
                                    exact pa_nil
                                case s38 =>
                                  with_reducible refine' pa_cons ?e40 ?s40 se_lst
                                  case e40 =>
                                    with_reducible refine' pe_lst ?a41
                                    case a41 =>
                                      exact pa_nil
                                  case s40 =>
                                    exact pa_nil
                            case s36 =>
                              with_reducible refine' pa_cons ?e42 ?s42 se_tup
                              case e42 =>
                                with_reducible refine' pe_tup ?a43
                                case a43 =>
                                  with_reducible refine' pa_cons ?e44 ?s44 se_lst
                                  case e44 =>
                                    with_reducible refine' pe_lst ?a45
                                    case a45 =>
                                      exact pa_nil
                                  case s44 =>
                                    with_reducible refine' pa_cons ?e46 ?s46 se_lst
                                    case e46 =>
                                      with_reducible refine' pe_lst ?a47
                                      case a47 =>
                                        with_reducible refine' pa_cons ?e48 ?s48 se_tup
                                        case e48 =>
                                          with_reducible refine' pe_tup ?a49
                                          case a49 =>
                                            with_reducible refine' pa_cons ?e50 ?s50 se_con
                                            case e50 =>
                                              exact pe_str
                                            case s50 =>
                                              with_reducible refine' pa_cons ?e52 ?s52 se_tup
                                              case e52 =>
                                                with_reducible refine' pe_tup ?a53
                                                case a53 =>
                                                  with_reducible refine' pa_cons ?e54 ?s54 se_con
                                                  case e54 =>
                                                    exact pe_str
                                                  case s54 =>
                                                    with_reducible refine' pa_cons ?e56 ?s56 se_con
                                                    case e56 =>
                                                      exact pe_str
                                                    case s56 =>
                                                      exact pa_nil
                                              case s52 =>
                                                exact pa_nil
                                        case s48 =>
                                          exact pa_nil
                                    case s46 =>
                                      exact pa_nil
                              case s42 =>
                                exact pa_nil
          case r21 =>
            with_reducible refine' pss_cons ?s58 ?r58
            case s58 =>
              refine' ps_set (i := 5) ?n ?r ?l ?e ?s ?f
              case n => exact S.nd
              case r => rfl
              case l => first | exact Or.inl rfl | exact Or.inr rfl
              case s => rfl
              case f => first | exact Or.inl rfl | exact Or.inr rfl
              case e =>
                with_reducible refine' pe_op op_cat ?l60 ?q60
                case l60 =>
                  exact (pv 5)
                case q60 =>
                  exact (pe_lc (tgs := ["deep"]) (cap := []) rfl ⟨rfl, rfl, rfl, rfl, rfl, rfl⟩ (pi_list (pe_lst (pa_cons pe_int (pa_cons pe_int pa_nil se_con) se_con))) (fun _ _ _ _ => (pg_name (i := 0) (show List.Nodup [("deep" : Str)] by decide +kernel) rfl (by first | exact Or.inl rfl | exact Or.inr rfl))) (fun _ _ _ _ => pifs_nil) (fun _ _ _ _ => (pe_tup (pa_cons (pe_lst pa_nil) (pa_cons (pe_lst (pa_cons (pe_tup (pa_cons pe_str (pa_cons (pe_fn f_law_deep_rule (hr.mono (by first | decide | omega)) (by rfl) (pa_cons pe_str (pa_cons (pv 0) pa_nil se_name) se_con)) pa_nil se_call) se_con)) pa_nil se_tup)) pa_nil se_lst) se_lst))))
            case r58 =>
              with_reducible refine' pss_cons ?s63 ?r63
              case s63 =>
                refine' ps_for PassesOwn.never rfl ?i64 ?g64 ?b64 ?h64
                case h64 => intro _; rfl
                case i64 => exact (pi_list (pe_op op_cat (pv 5) (pe_lst (pa_cons (pe_tup (pa_cons (pe_lst pa_nil) (pa_cons (pe_lst (pa_cons (pe_tup (pa_cons pe_str (pa_cons (pe_tup pa_nil) pa_nil se_tup) se_con)) pa_nil se_tup)) pa_nil se_lst) se_lst)) (pa_cons (pe_tup (pa_cons (pe_lst (pa_cons pe_str pa_nil se_con)) (pa_cons (pe_lst pa_nil) pa_nil se_lst) se_lst)) (pa_cons pe_bl pa_nil se_con) se_tup) se_tup))))
                case g64 => exact (pg_name (i := 6) S.nd rfl (by first | exact Or.inl rfl | exact Or.inr rfl))
                case b64 =>
                  with_reducible refine' pss_one ?s65
                  case s65 =>
                    with_reducible refine' ps_if ?c66 ?a66 ?o66
                    case c66 => exact (pt_not (pt_val (pe_fn f_law_right (hr.mono (by first | decide | omega)) (by rfl) (pa_cons (pv 6) pa_nil se_name))))
                    case a66 =>
                      with_reducible refine' pss_one ?s67
                      case s67 =>
                        exact (ps_ret pe_bl)
                    case o66 =>
                      exact pss_nil
              case r63 =>
                with_reducible refine' pss_one ?s69
                case s69 =>
                  exact (ps_ret pe_bl)
    try dsimp only [cxOf, Cx.nox, Cx.wish]
    rw [show L2.start ["script", "deck", "k", "net", "turn", "things", "thing"] [V.ref sc] = [some (.ref sc), none, none, none, none, none, none] from rfl]
    repeat walk_at "vc"
    refine ⟨sc, cells, rfl, hS, hlen, fun D H1 S1 DA1 => ?_⟩
    repeat walk_at "vc"
    refine ⟨by decide, by decide, ?_⟩
    refine for_range (n := 4) (fun i σ H' => (∃ x2 x3 x4, σ = [some (.ref sc), some (.ref D.d), x2, x3, x4, none, none]) ∧ D.At H') ⟨⟨_, _, _, rfl⟩, DA1⟩ (fun i σ H' hi pv => ?_) (fun σ H' pv => ?_)
    · obtain ⟨⟨x2, x3, x4, rfl⟩, DA⟩ := pv
      refine s_name ?_
      repeat walk_at "vc"
      refine ⟨D, rfl, DA, fun a li lg ins gvs gs H2 NA nq k2 => ?_⟩
      have ok := nq.1
      have i4 := nq.2.1
      have g7 := nq.2.2.2.1
      have inet : Is D.own H2 13 (.ref a) (trN ins gs) := net_is (m := 10) k2.dk NA (net_rules ok) (net_ins ok) (by omega) (by omega)
      repeat walk_at "vc"
      refine ⟨D.own, 13, .ref a, _, rfl, inet, fun H3 S3 => ?_⟩
      rw [good_net nq]
      refine i_c ⟨_, _, rfl, rfl, ?_⟩
      refine ⟨_, rfl, ifF rfl ?_⟩
      have DA3 := k2.dk.same S3
      repeat walk_at "vc"
      refine ⟨D, 13, .ref a, _, rfl, by decide, DA3, inet.keep (.of S3), fun H4 S4 => ?_⟩
      have DA4 := DA3.same S4
      refine ⟨_, rfl, ifF rfl ?_⟩
      repeat walk_at "vc"
      refine ⟨D, rfl, DA4, fun v5 t5 H5 k5 i5 => ?_⟩
      repeat walk_at "vc"
      refine ⟨D, 16, v5, t5, rfl, by decide, k5.dk, i5, fun H6 S6 => ?_⟩
      refine ⟨_, rfl, iteF ?_⟩
      have DA6 := k5.dk.same S6
      repeat walk_at "vc"
      refine ⟨D, rfl, DA6, fun v7 t7 H7 k7 i7 => ?_⟩
      repeat walk_at "vc"
      refine ⟨D, 16, v7, t7, rfl, by decide, k7.dk, i7, fun H8 S8 => ?_⟩
      refine ⟨_, rfl, ifF rfl ?_⟩
      have DA8 := k7.dk.same S8
      have NA8 : NAt H8 a li lg ins gvs gs := ((((NA.same S3).same S4).kp DA4 k5).same S6).kp DA6 k7 |>.same S8
      repeat walk_at "vc"
      refine ⟨by decide, by decide, ?_⟩
      refine for_range (n := 10) (fun i' σ H' => (∃ x4, σ = [some (.ref sc), some (.ref D.d), some (.int (0 + i)), some (.ref a), x4, none, none]) ∧ D.At H' ∧ NAt H' a li lg ins gvs gs) ⟨⟨_, rfl⟩, DA8, NA8⟩ (fun i' σ H' hi' pv => ?_) (fun σ H' pv => ?_)
      · obtain ⟨⟨x4, rfl⟩, DA9, NA9⟩ := pv
        refine s_name ?_
        repeat walk_at "vc"
        refine ⟨D, a, li, lg, ins, gvs, gs, rfl, DA9, NA9, nq, fun v t H10 k10 i10 => ?_⟩
        repeat walk_at "vc"
        refine ⟨D, 20, v, t, rfl, by decide, k10.dk, i10, fun H11 S11 => ?_⟩
        refine ⟨_, rfl, ifF rfl ?_⟩
        exact s_next ⟨⟨_, rfl⟩, k10.dk.same S11, (NA9.kp DA9 k10).same S11⟩
      · obtain ⟨⟨x4, rfl⟩, DA9, NA9⟩ := pv
        exact ⟨⟨_, _, _, rfl⟩, DA9⟩
    · obtain ⟨⟨x2, x3, x4, rfl⟩, DA⟩ := pv
      with_reducible refine s_seq ?_
      with_reducible refine s_asg ?_
      have init : ∀ (n : Nat) (H1 : Hp) (ta : TA) (σ : St) (R : VK), D.At H1 → n ≤ 50 → MkA D.own H1 σ 18 n ta → (∀ p xs ts H', ¬ D.own p → Same H1 H' → H' p = some (.lst xs) → All2 D.own H' 18 xs ts → xs.length = n → R (.ref p) H') → tLst ta σ H1 R := fun n H1 ta σ R DA1 hn mk kR => by
        refine i_lst (mk H1 _ (Same.refl _) fun ys us H6 S6 al hl => ⟨by omega, fun l hl' => ?_⟩)
        exact kR l ys us _ (notOwn_fresh (DA1.same S6) hl') (S6.trans (fresh_same hl')) upd_same (al.same (.of (fresh_same hl'))) hl
      have nn : Is D.own H' 0 .non .non := .non
      refine init 8 _ _ _ _ DA (by decide) ?_ fun p xs ts H2 nop S2 q2 al2 hl2 => ?_
      · (repeat' (first | exact mka_nil | exact mkb_nil | exact mk_non | exact mk_int | exact mk_bl | exact mk_str (by decide +kernel) | exact mk_dct DA.al | exact mk_var rfl nn (by omega) | (with_reducible refine mka_cons ?_ ?_) | (with_reducible refine mkb_cons ?_ ?_) | (refine mk_tup DA.al ?_) | (refine mk_lst DA.al ?_)))
      have DA2 := DA.same S2
      refine s_name ?_
      repeat walk_at "vc"
      refine i_comp (s_list ?_)
      repeat walk_at "vc"
      refine ⟨by decide, fun p3 hp3 => ?_⟩
      generalize hE : upd H2 p3 _ = H3
      obtain ⟨S3, q3⟩ := upd_pair hp3 hE
      clear hE
      refine ⟨p3, rfl, ⟨_, SqL.of q3⟩, fun L hL => ?_⟩
      have DA3 := DA2.same S3
      refine comp_list (xs := [V.int 10, V.int 11]) (fun m H' ys => Same H3 H' ∧ H' L = some (.lst ys) ∧ ∃ us, All2 (mor D.own L) H' 18 ys us ∧ ys.length = m) ⟨fresh_same hL, upd_same, [], All2.nil, rfl⟩ (fun m H' ys p => ⟨p.2.1, SqL.of (p.1 _ _ q3)⟩) (fun m x H' ys e p => ?_) (fun H4 ys p => ?_)
      · obtain ⟨Sm, hd, us, au, yl⟩ := p
        have hm : m < 2 := (List.getElem?_eq_some_iff.mp e).1
        obtain ⟨kk, rfl, k10, k11⟩ : ∃ n : Nat, x = .int n ∧ 1 ≤ n ∧ n ≤ 12 := by
          have h3 : m = 0 ∨ m = 1 := by omega
          rcases h3 with h | h
          · rw [h] at e; cases e; exact ⟨10, rfl, by decide, by decide⟩
          · rw [h] at e; cases e; exact ⟨11, rfl, by decide, by decide⟩
        have DAm := DA3.same Sm
        have alm : Al (mor D.own L) H' := al_more DA3.al Sm hd
        refine s_name ⟨trivial, i_yes (iteT ?_)⟩
        repeat walk_at "vc"
        refine ⟨by decide, fun p5 hp5 => ?_⟩
        generalize hE : upd H' p5 _ = H5
        obtain ⟨S5, q5⟩ := upd_pair hp5 hE
        clear hE
        repeat walk_at "vc"
        refine ⟨"a", kk, rfl, by decide +kernel, k10, k11, fun u r H6 S6 ru rd rs => ?_⟩
        refine i_nil ⟨by show 2 ≤ _; omega, fun p7 hp7 => ?_⟩
        generalize hE : upd H6 p7 _ = H7
        obtain ⟨S7, q7⟩ := upd_pair hp7 hE
        clear hE
        repeat walk_at "vc"
        refine ⟨by show 1 ≤ _; omega, fun p8 hp8 => ?_⟩
        generalize hE : upd H7 p8 _ = H8
        obtain ⟨S8, q8⟩ := upd_pair hp8 hE
        clear hE
        repeat walk_at "vc"
        refine ⟨by show 2 ≤ _; omega, fun p9 hp9 => ?_⟩
        generalize hE : upd H8 p9 _ = H9
        obtain ⟨S9, q9⟩ := upd_pair hp9 hE
        clear hE
        have S79 := S8.trans S9
        have S69 := S7.trans S79
        have S59 := S6.trans S69
        have Sm7 := S5.trans (S6.trans S7)
        have Sm9 := S5.trans S59
        have oa9 : OL D (mor D.own L) H9 := ol_mor (DAm.same Sm9) (Sm9 _ _ hd)
        have ir : Is (mor D.own L) H9 12 u (trR r) := (rl_is oa9 (ru.mono (Same.tups S69)) rs).up (by omega)
        have i5 : Is (mor D.own L) H9 16 (.ref p5) (.lst []) := Is.ofL (n := 15) (alm p5 hp5) (S59 _ _ q5) All2.nil (by simp)
        have i7 : Is (mor D.own L) H9 13 (.ref p7) _ := Is.ofT (oa9.tup (S79 _ _ q7)) (S79 _ _ q7) (.cons (.str (by decide +kernel)) (.cons ir .nil)) (by simp)
        have i8 : Is (mor D.own L) H9 14 (.ref p8) _ := Is.ofL (alm.same Sm7 p8 hp8) (S9 _ _ q8) (.cons i7 .nil) (by simp)
        have i9 : Is (mor D.own L) H9 18 (.ref p9) _ := Is.ofT (n := 17) (oa9.tup q9) q9 (.cons (i5.up (by decide)) (.cons (i8.up (by decide)) .nil)) (by simp)
        refine NextC.mk (Sm9 _ _ hd) hm (by omega) ⟨same_upd (Sm.trans Sm9) hL, upd_same, us ++ [_], (au.same (keep_more Sm9)).app (.cons (i9.keep (keep_more (Same.refl _))) .nil), by simp [yl]⟩
      · obtain ⟨S4, h4, us, au, yl⟩ := p
        have yl : ys.length = 2 := yl
        have au' : All2 D.own H4 18 ys us := ⟨au.1, fun j x t e1 e2 => (au.2 j x t e1 e2).less fun b h => .inl h⟩
        have S24 := S3.trans S4
        refine i_cat (S24 _ _ q2) h4 (by omega) fun p10 hp10 => ?_
        generalize hE : upd H4 p10 _ = H10
        obtain ⟨S10, q10⟩ := upd_pair hp10 hE
        clear hE
        have al10 := ((al2.same (.of S24)).app au').same (.of S10)
        have DA10 := DA2.same (S24.trans S10)
        refine s_name ?_
        with_reducible refine s_seq ?_
        with_reducible refine s_for ?_
        with_reducible refine s_list ?_
        with_reducible refine i_op ?_
        refine i_var rfl ?_
        have nn : Is D.own H10 0 .non .non := .non
        refine init 3 _ _ _ _ DA10 (by decide) ?_ fun p11 xs11 ts11 H11 nop11 S11 q11 al11 hl11 => ?_
        · (repeat' (first | exact mka_nil | exact mkb_nil | exact mk_non | exact mk_int | exact mk_bl | exact mk_str (by decide +kernel) | exact mk_dct DA10.al | exact mk_var rfl nn (by omega) | (with_reducible refine mka_cons ?_ ?_) | (with_reducible refine mkb_cons ?_ ?_) | (refine mk_tup DA10.al ?_) | (refine mk_lst DA10.al ?_)))
        have l10 : (xs ++ ys).length = 10 := by rw [List.length_append]; omega
        refine i_cat (S11 _ _ q10) q11 (by omega) fun p12 hp12 => ?_
        generalize hE : upd H11 p12 _ = H12
        obtain ⟨S12, q12⟩ := upd_pair hp12 hE
        clear hE
        have al12 := ((al10.same (.of S11)).app al11).same (.of S12)
        have DA12 := DA10.same (S11.trans S12)
        refine ⟨p12, rfl, ⟨_, SqL.of q12⟩, ?_⟩
        refine for_list (xs := (xs ++ ys) ++ xs11) (fun i σ H' => (∃ x6, σ = [some (.ref sc), some (.ref D.d), x2, x3, x4, some (.ref p10), x6]) ∧ Same H12 H') ⟨⟨_, rfl⟩, Same.refl _⟩ (fun i σ H' _ p => SqL.of (p.2 _ _ q12)) (fun i x σ H' e p => ?_) (fun σ H' p => ?_)
        · obtain ⟨⟨x6, rfl⟩, Sm⟩ := p
          obtain ⟨t, _, it⟩ := al12.get e
          refine s_name ?_
          repeat walk_at "vc"
          refine ⟨D, 18, x, t, rfl, by decide, DA12.same Sm, it.keep (.of Sm), fun H13 S13 => ?_⟩
          refine ⟨_, rfl, ifF rfl ?_⟩
          exact s_next ⟨⟨_, rfl⟩, Sm.trans S13⟩
        · obtain ⟨⟨x6, rfl⟩, Sm⟩ := p
          repeat walk_at "vc"
          exact k H'
end
end K2
set_option Elab.async false
set_option linter.all false
set_option maxRecDepth 100000
set_option maxHeartbeats 4000000
namespace K2
open PySem L2 PySem.Spec PyProof.Rows
theorem len_1 {A : Type} {us : List A} (h : us.length = 1) : ∃ a0, us = [a0] := by
  match us, h with
  | [a0], _ => exact ⟨_, rfl⟩
theorem len_2 {A : Type} {us : List A} (h : us.length = 2) : ∃ a0 a1, us = [a0, a1] := by
  match us, h with
  | [a0, a1], _ => exact ⟨_, _, rfl⟩
theorem len_3 {A : Type} {us : List A} (h : us.length = 3) : ∃ a0 a1 a2, us = [a0, a1, a2] := by
  match us, h with
  | [a0, a1, a2], _ => exact ⟨_, _, _, rfl⟩
theorem len_4 {A : Type} {us : List A} (h : us.length = 4) : ∃ a0 a1 a2 a3, us = [a0, a1, a2, a3] := by
  match us, h with
  | [a0, a1, a2, a3], _ => exact ⟨_, _, _, _, rfl⟩
theorem len_5 {A : Type} {us : List A} (h : us.length = 5) : ∃ a0 a1 a2 a3 a4, us = [a0, a1, a2, a3, a4] := by
  match us, h with
  | [a0, a1, a2, a3, a4], _ => exact ⟨_, _, _, _, _, rfl⟩
theorem len_6 {A : Type} {us : List A} (h : us.length = 6) : ∃ a0 a1 a2 a3 a4 a5, us = [a0, a1, a2, a3, a4, a5] := by
  match us, h with
  | [a0, a1, a2, a3, a4, a5], _ => exact ⟨_, _, _, _, _, _, rfl⟩
theorem all_mk {l : PySem.W.OpenLaw} {w : World} {K : PySem.W.Frag} {h : Heap} {mg : Str → Option Value} {fa TT f0 f1 f2 f3 f4 f5 f6 f7 f8 f9 f10 f11 f12 f13 f14 f15 f16 f17 f18 f19 f20 f21 f22 f23 f24 f25 f26 f27 : Addr} (X : K.In h) (G : h.Ns mainGlobals mg) (hfa : mg "law" = some (.ref fa))
    {od0 an0 od1 an1 od2 an2 od3 an3 od4 an4 od5 an5 od6 an6 od7 an7 od8 an8 od9 an9 od10 an10 od11 an11 od12 an12 od13 an13 od14 an14 od15 an15 od16 an16 od17 an17 od18 an18 od19 an19 od20 an20 od21 an21 od22 an22 od23 an23 od24 an24 od25 an25 od26 an26 od27 an27 : Option Addr} {sl0 sl1 sl2 sl3 sl4 sl5 sl6 sl7 sl8 sl9 sl10 sl11 sl12 sl13 sl14 sl15 sl16 sl17 sl18 sl19 sl20 sl21 sl22 sl23 sl24 sl25 sl26 sl27 : Array (Option Value)} {oc0 kV0 dc0 pm0 cd0 ct0 oc1 kV1 dc1 pm1 cd1 ct1 oc2 kV2 dc2 pm2 cd2 ct2 oc3 kV3 dc3 pm3 cd3 ct3 oc4 kV4 dc4 pm4 cd4 ct4 oc5 kV5 dc5 pm5 cd5 ct5 oc6 kV6 dc6 pm6 cd6 ct6 oc7 kV7 dc7 pm7 cd7 ct7 oc8 kV8 dc8 pm8 cd8 ct8 oc9 kV9 dc9 pm9 cd9 ct9 oc10 kV10 dc10 pm10 cd10 ct10 oc11 kV11 dc11 pm11 cd11 ct11 oc12 kV12 dc12 pm12 cd12 ct12 oc13 kV13 dc13 pm13 cd13 ct13 oc14 kV14 dc14 pm14 cd14 ct14 oc15 kV15 dc15 pm15 cd15 ct15 oc16 kV16 dc16 pm16 cd16 ct16 oc17 kV17 dc17 pm17 cd17 ct17 oc18 kV18 dc18 pm18 cd18 ct18 oc19 kV19 dc19 pm19 cd19 ct19 oc20 kV20 dc20 pm20 cd20 ct20 oc21 kV21 dc21 pm21 cd21 ct21 oc22 kV22 dc22 pm22 cd22 ct22 oc23 kV23 dc23 pm23 cd23 ct23 oc24 kV24 dc24 pm24 cd24 ct24 oc25 kV25 dc25 pm25 cd25 ct25 oc26 kV26 dc26 pm26 cd26 ct26 oc27 kV27 dc27 pm27 cd27 ct27 : Value}
    (aT : PySem.W.nsIn K mainGlobals "PARTS_OF_RULE" = some (some (.ref TT))) (tab : tabAt K TT [("wire", .flat (.int 2)), ("not", .flat (.int 2)), ("and", .flat (.int 3)), ("or", .flat (.int 3))])
    (a0 : PySem.W.nsIn K mainGlobals "is_name" = some (some (.ref f0))) (l0 : K.lookup f0 = some ⟨oc0, od0, .func (PySem.W.fnOf "is_name" "is_name" (defArgs (top 7)) (defBody (top 7)) (defScope (top 7)) .none kV0 dc0 pm0 an0 cd0 ct0), sl0⟩) (c0 : PySem.W.codeIn K cd0 "is_name" = true) (k0 : PySem.W.keepIn K (.ref f0) = true)
    (a1 : PySem.W.nsIn K mainGlobals "is_rule" = some (some (.ref f1))) (l1 : K.lookup f1 = some ⟨oc1, od1, .func (PySem.W.fnOf "is_rule" "is_rule" (defArgs (top 8)) (defBody (top 8)) (defScope (top 8)) .none kV1 dc1 pm1 an1 cd1 ct1), sl1⟩) (c1 : PySem.W.codeIn K cd1 "is_rule" = true) (k1 : PySem.W.keepIn K (.ref f1) = true)
    (a2 : PySem.W.nsIn K mainGlobals "is_pair" = some (some (.ref f2))) (l2 : K.lookup f2 = some ⟨oc2, od2, .func (PySem.W.fnOf "is_pair" "is_pair" (defArgs (top 9)) (defBody (top 9)) (defScope (top 9)) .none kV2 dc2 pm2 an2 cd2 ct2), sl2⟩) (c2 : PySem.W.codeIn K cd2 "is_pair" = true) (k2 : PySem.W.keepIn K (.ref f2) = true)
    (a3 : PySem.W.nsIn K mainGlobals "are_unlike_names" = some (some (.ref f3))) (l3 : K.lookup f3 = some ⟨oc3, od3, .func (PySem.W.fnOf "are_unlike_names" "are_unlike_names" (defArgs (top 10)) (defBody (top 10)) (defScope (top 10)) .none kV3 dc3 pm3 an3 cd3 ct3), sl3⟩) (c3 : PySem.W.codeIn K cd3 "are_unlike_names" = true) (k3 : PySem.W.keepIn K (.ref f3) = true)
    (a4 : PySem.W.nsIn K mainGlobals "is_net" = some (some (.ref f4))) (l4 : K.lookup f4 = some ⟨oc4, od4, .func (PySem.W.fnOf "is_net" "is_net" (defArgs (top 11)) (defBody (top 11)) (defScope (top 11)) .none kV4 dc4 pm4 an4 cd4 ct4), sl4⟩) (c4 : PySem.W.codeIn K cd4 "is_net" = true) (k4 : PySem.W.keepIn K (.ref f4) = true)
    (a5 : PySem.W.nsIn K mainGlobals "gates_of" = some (some (.ref f5))) (l5 : K.lookup f5 = some ⟨oc5, od5, .func (PySem.W.fnOf "gates_of" "gates_of" (defArgs (top 12)) (defBody (top 12)) (defScope (top 12)) .none kV5 dc5 pm5 an5 cd5 ct5), sl5⟩) (c5 : PySem.W.codeIn K cd5 "gates_of" = true) (k5 : PySem.W.keepIn K (.ref f5) = true)
    (a6 : PySem.W.nsIn K mainGlobals "wires_of" = some (some (.ref f6))) (l6 : K.lookup f6 = some ⟨oc6, od6, .func (PySem.W.fnOf "wires_of" "wires_of" (defArgs (top 13)) (defBody (top 13)) (defScope (top 13)) .none kV6 dc6 pm6 an6 cd6 ct6), sl6⟩) (c6 : PySem.W.codeIn K cd6 "wires_of" = true) (k6 : PySem.W.keepIn K (.ref f6) = true)
    (a7 : PySem.W.nsIn K mainGlobals "_law_deck" = some (some (.ref f7))) (l7 : K.lookup f7 = some ⟨oc7, od7, .func (PySem.W.fnOf "_law_deck" "_law_deck" (defArgs (top 15)) (defBody (top 15)) (defScope (top 15)) .none kV7 dc7 pm7 an7 cd7 ct7), sl7⟩) (c7 : PySem.W.codeIn K cd7 "_law_deck" = true) (k7 : PySem.W.keepIn K (.ref f7) = true)
    (a8 : PySem.W.nsIn K mainGlobals "_law_draw" = some (some (.ref f8))) (l8 : K.lookup f8 = some ⟨oc8, od8, .func (PySem.W.fnOf "_law_draw" "_law_draw" (defArgs (top 16)) (defBody (top 16)) (defScope (top 16)) .none kV8 dc8 pm8 an8 cd8 ct8), sl8⟩) (c8 : PySem.W.codeIn K cd8 "_law_draw" = true) (k8 : PySem.W.keepIn K (.ref f8) = true)
    (a9 : PySem.W.nsIn K mainGlobals "_law_rule" = some (some (.ref f9))) (l9 : K.lookup f9 = some ⟨oc9, od9, .func (PySem.W.fnOf "_law_rule" "_law_rule" (defArgs (top 17)) (defBody (top 17)) (defScope (top 17)) .none kV9 dc9 pm9 an9 cd9 ct9), sl9⟩) (c9 : PySem.W.codeIn K cd9 "_law_rule" = true) (k9 : PySem.W.keepIn K (.ref f9) = true)
    (a10 : PySem.W.nsIn K mainGlobals "_law_names" = some (some (.ref f10))) (l10 : K.lookup f10 = some ⟨oc10, od10, .func (PySem.W.fnOf "_law_names" "_law_names" (defArgs (top 18)) (defBody (top 18)) (defScope (top 18)) .none kV10 dc10 pm10 an10 cd10 ct10), sl10⟩) (c10 : PySem.W.codeIn K cd10 "_law_names" = true) (k10 : PySem.W.keepIn K (.ref f10) = true)
    (a11 : PySem.W.nsIn K mainGlobals "_law_held" = some (some (.ref f11))) (l11 : K.lookup f11 = some ⟨oc11, od11, .func (PySem.W.fnOf "_law_held" "_law_held" (defArgs (top 19)) (defBody (top 19)) (defScope (top 19)) .none kV11 dc11 pm11 an11 cd11 ct11), sl11⟩) (c11 : PySem.W.codeIn K cd11 "_law_held" = true) (k11 : PySem.W.keepIn K (.ref f11) = true)
    (a12 : PySem.W.nsIn K mainGlobals "_law_known" = some (some (.ref f12))) (l12 : K.lookup f12 = some ⟨oc12, od12, .func (PySem.W.fnOf "_law_known" "_law_known" (defArgs (top 20)) (defBody (top 20)) (defScope (top 20)) .none kV12 dc12 pm12 an12 cd12 ct12), sl12⟩) (c12 : PySem.W.codeIn K cd12 "_law_known" = true) (k12 : PySem.W.keepIn K (.ref f12) = true)
    (a13 : PySem.W.nsIn K mainGlobals "_law_net" = some (some (.ref f13))) (l13 : K.lookup f13 = some ⟨oc13, od13, .func (PySem.W.fnOf "_law_net" "_law_net" (defArgs (top 21)) (defBody (top 21)) (defScope (top 21)) .none kV13 dc13 pm13 an13 cd13 ct13), sl13⟩) (c13 : PySem.W.codeIn K cd13 "_law_net" = true) (k13 : PySem.W.keepIn K (.ref f13) = true)
    (a14 : PySem.W.nsIn K mainGlobals "_law_copy" = some (some (.ref f14))) (l14 : K.lookup f14 = some ⟨oc14, od14, .func (PySem.W.fnOf "_law_copy" "_law_copy" (defArgs (top 22)) (defBody (top 22)) (defScope (top 22)) .none kV14 dc14 pm14 an14 cd14 ct14), sl14⟩) (c14 : PySem.W.codeIn K cd14 "_law_copy" = true) (k14 : PySem.W.keepIn K (.ref f14) = true)
    (a15 : PySem.W.nsIn K mainGlobals "_law_name_good" = some (some (.ref f15))) (l15 : K.lookup f15 = some ⟨oc15, od15, .func (PySem.W.fnOf "_law_name_good" "_law_name_good" (defArgs (top 23)) (defBody (top 23)) (defScope (top 23)) .none kV15 dc15 pm15 an15 cd15 ct15), sl15⟩) (c15 : PySem.W.codeIn K cd15 "_law_name_good" = true) (k15 : PySem.W.keepIn K (.ref f15) = true)
    (a16 : PySem.W.nsIn K mainGlobals "_law_rule_good" = some (some (.ref f16))) (l16 : K.lookup f16 = some ⟨oc16, od16, .func (PySem.W.fnOf "_law_rule_good" "_law_rule_good" (defArgs (top 24)) (defBody (top 24)) (defScope (top 24)) .none kV16 dc16 pm16 an16 cd16 ct16), sl16⟩) (c16 : PySem.W.codeIn K cd16 "_law_rule_good" = true) (k16 : PySem.W.keepIn K (.ref f16) = true)
    (a17 : PySem.W.nsIn K mainGlobals "_law_good" = some (some (.ref f17))) (l17 : K.lookup f17 = some ⟨oc17, od17, .func (PySem.W.fnOf "_law_good" "_law_good" (defArgs (top 25)) (defBody (top 25)) (defScope (top 25)) .none kV17 dc17 pm17 an17 cd17 ct17), sl17⟩) (c17 : PySem.W.codeIn K cd17 "_law_good" = true) (k17 : PySem.W.keepIn K (.ref f17) = true)
    (a18 : PySem.W.nsIn K mainGlobals "_law_odd" = some (some (.ref f18))) (l18 : K.lookup f18 = some ⟨oc18, od18, .func (PySem.W.fnOf "_law_odd" "_law_odd" (defArgs (top 26)) (defBody (top 26)) (defScope (top 26)) .none kV18 dc18 pm18 an18 cd18 ct18), sl18⟩) (c18 : PySem.W.codeIn K cd18 "_law_odd" = true) (k18 : PySem.W.keepIn K (.ref f18) = true)
    (a19 : PySem.W.nsIn K mainGlobals "_law_bent" = some (some (.ref f19))) (l19 : K.lookup f19 = some ⟨oc19, od19, .func (PySem.W.fnOf "_law_bent" "_law_bent" (defArgs (top 27)) (defBody (top 27)) (defScope (top 27)) .none kV19 dc19 pm19 an19 cd19 ct19), sl19⟩) (c19 : PySem.W.codeIn K cd19 "_law_bent" = true) (k19 : PySem.W.keepIn K (.ref f19) = true)
    (a20 : PySem.W.nsIn K mainGlobals "_law_read_as" = some (some (.ref f20))) (l20 : K.lookup f20 = some ⟨oc20, od20, .func (PySem.W.fnOf "_law_read_as" "_law_read_as" (defArgs (top 28)) (defBody (top 28)) (defScope (top 28)) .none kV20 dc20 pm20 an20 cd20 ct20), sl20⟩) (c20 : PySem.W.codeIn K cd20 "_law_read_as" = true) (k20 : PySem.W.keepIn K (.ref f20) = true)
    (a21 : PySem.W.nsIn K mainGlobals "_law_named" = some (some (.ref f21))) (l21 : K.lookup f21 = some ⟨oc21, od21, .func (PySem.W.fnOf "_law_named" "_law_named" (defArgs (top 29)) (defBody (top 29)) (defScope (top 29)) .none kV21 dc21 pm21 an21 cd21 ct21), sl21⟩) (c21 : PySem.W.codeIn K cd21 "_law_named" = true) (k21 : PySem.W.keepIn K (.ref f21) = true)
    (a22 : PySem.W.nsIn K mainGlobals "_law_changed" = some (some (.ref f22))) (l22 : K.lookup f22 = some ⟨oc22, od22, .func (PySem.W.fnOf "_law_changed" "_law_changed" (defArgs (top 30)) (defBody (top 30)) (defScope (top 30)) .none kV22 dc22 pm22 an22 cd22 ct22), sl22⟩) (c22 : PySem.W.codeIn K cd22 "_law_changed" = true) (k22 : PySem.W.keepIn K (.ref f22) = true)
    (a23 : PySem.W.nsIn K mainGlobals "_law_deep_rule" = some (some (.ref f23))) (l23 : K.lookup f23 = some ⟨oc23, od23, .func (PySem.W.fnOf "_law_deep_rule" "_law_deep_rule" (defArgs (top 31)) (defBody (top 31)) (defScope (top 31)) .none kV23 dc23 pm23 an23 cd23 ct23), sl23⟩) (c23 : PySem.W.codeIn K cd23 "_law_deep_rule" = true) (k23 : PySem.W.keepIn K (.ref f23) = true)
    (a24 : PySem.W.nsIn K mainGlobals "_law_fitting" = some (some (.ref f24))) (l24 : K.lookup f24 = some ⟨oc24, od24, .func (PySem.W.fnOf "_law_fitting" "_law_fitting" (defArgs (top 32)) (defBody (top 32)) (defScope (top 32)) .none kV24 dc24 pm24 an24 cd24 ct24), sl24⟩) (c24 : PySem.W.codeIn K cd24 "_law_fitting" = true) (k24 : PySem.W.keepIn K (.ref f24) = true)
    (a25 : PySem.W.nsIn K mainGlobals "_law_deep" = some (some (.ref f25))) (l25 : K.lookup f25 = some ⟨oc25, od25, .func (PySem.W.fnOf "_law_deep" "_law_deep" (defArgs (top 33)) (defBody (top 33)) (defScope (top 33)) .none kV25 dc25 pm25 an25 cd25 ct25), sl25⟩) (c25 : PySem.W.codeIn K cd25 "_law_deep" = true) (k25 : PySem.W.keepIn K (.ref f25) = true)
    (a26 : PySem.W.nsIn K mainGlobals "_law_right" = some (some (.ref f26))) (l26 : K.lookup f26 = some ⟨oc26, od26, .func (PySem.W.fnOf "_law_right" "_law_right" (defArgs (top 34)) (defBody (top 34)) (defScope (top 34)) .none kV26 dc26 pm26 an26 cd26 ct26), sl26⟩) (c26 : PySem.W.codeIn K cd26 "_law_right" = true) (k26 : PySem.W.keepIn K (.ref f26) = true)
    (a27 : PySem.W.nsIn K mainGlobals "law" = some (some (.ref f27))) (l27 : K.lookup f27 = some ⟨oc27, od27, .func (PySem.W.fnOf "law" "law" (defArgs (top 35)) (defBody (top 35)) (defScope (top 35)) .none kV27 dc27 pm27 an27 cd27 ct27), sl27⟩) (c27 : PySem.W.codeIn K cd27 "law" = true) (k27 : PySem.W.keepIn K (.ref f27) = true)
    {tk0 tk1 tk2 tk3 tk4 : Tok}
    (cn0 : PySem.W.nsIn K mainGlobals "LETTERS" = some (some (.str "abcdefghijklmnopqrstuvwxyz" tk0)))
    (cn1 : PySem.W.nsIn K mainGlobals "MOST_LETTERS" = some (some (.int 8 tk1)))
    (cn2 : PySem.W.nsIn K mainGlobals "MOST_RULES_WITHIN" = some (some (.int 10 tk2)))
    (cn3 : PySem.W.nsIn K mainGlobals "MOST_INPUTS" = some (some (.int 4 tk3)))
    (cn4 : PySem.W.nsIn K mainGlobals "MOST_GATES" = some (some (.int 7 tk4)))
    (z0 : PySem.W.nsIn K mainGlobals "len" = some none)
    (z1 : PySem.W.nsIn K mainGlobals "range" = some none)
    (z2 : PySem.W.nsIn K mainGlobals "max" = some none)
    (z3 : PySem.W.nsIn K mainGlobals "min" = some none)
    (z4 : PySem.W.nsIn K mainGlobals "int" = some none)
    (z5 : PySem.W.nsIn K mainGlobals "list" = some none)
    (z6 : PySem.W.nsIn K mainGlobals "str" = some none)
    (z7 : PySem.W.nsIn K mainGlobals "isinstance" = some none)
    (z8 : PySem.W.nsIn K mainGlobals "all" = some none)
    (z9 : PySem.W.nsIn K mainGlobals "dict" = some none)
    (z10 : PySem.W.nsIn K mainGlobals "zip" = some none)
    (z11 : PySem.W.nsIn K mainGlobals "enumerate" = some none)
    (z12 : PySem.W.nsIn K mainGlobals "abs" = some none)
    (z13 : PySem.W.nsIn K mainGlobals "tuple" = some none)
    (z14 : PySem.W.nsIn K mainGlobals "set" = some none)
    (z15 : PySem.W.nsIn K mainGlobals "sorted" = some none)
    (z16 : PySem.W.nsIn K mainGlobals "bool" = some none)
    : ∃ fd : FuncData, (∀ (s : Shared) (v : Value), BindsTo s fd ⟨[v], []⟩ [("script", v)]) ∧ ∀ base : Heap, K.In base → base.Ns mainGlobals mg → FnOk l.prog w K mg base CX0 23 fa fd ["script"] (spLaw K) := by
  have e := hfa.symm.trans (PySem.W.mg_of X G a27)
  cases e
  have T : Txt K mg TT := ⟨PySem.W.mg_none_of X G z0, PySem.W.mg_none_of X G z1, PySem.W.mg_none_of X G z2, PySem.W.mg_none_of X G z3, PySem.W.mg_none_of X G z4, PySem.W.mg_none_of X G z5, PySem.W.mg_none_of X G z6, PySem.W.mg_none_of X G z7, PySem.W.mg_none_of X G z8, PySem.W.mg_none_of X G z9, PySem.W.mg_none_of X G z10, PySem.W.mg_none_of X G z11, PySem.W.mg_none_of X G z12, PySem.W.mg_none_of X G z13, PySem.W.mg_none_of X G z14, PySem.W.mg_none_of X G z15, PySem.W.mg_none_of X G z16, ⟨_, PySem.W.mg_of X G cn0⟩, ⟨_, PySem.W.mg_of X G cn1⟩, ⟨_, PySem.W.mg_of X G cn2⟩, ⟨_, PySem.W.mg_of X G cn3⟩, ⟨_, PySem.W.mg_of X G cn4⟩, PySem.W.mg_of X G aT, tab⟩
  have F0 := fun_mk (st := top 7) l0 c0 k0
  have b0 := F0.binds (ps := ["thing"]) fun _ _ _ _ _ _ us hl => by obtain ⟨_, rfl⟩ := len_1 hl; rfl
  have m0 := PySem.W.mg_of X G a0
  have F1 := fun_mk (st := top 8) l1 c1 k1
  have b1 := F1.binds (ps := ["thing", "wires", "depth"]) fun _ _ _ _ _ _ us hl => by obtain ⟨_, _, _, rfl⟩ := len_3 hl; rfl
  have m1 := PySem.W.mg_of X G a1
  have F2 := fun_mk (st := top 9) l2 c2 k2
  have b2 := F2.binds (ps := ["thing"]) fun _ _ _ _ _ _ us hl => by obtain ⟨_, rfl⟩ := len_1 hl; rfl
  have m2 := PySem.W.mg_of X G a2
  have F3 := fun_mk (st := top 10) l3 c3 k3
  have b3 := F3.binds (ps := ["things"]) fun _ _ _ _ _ _ us hl => by obtain ⟨_, rfl⟩ := len_1 hl; rfl
  have m3 := PySem.W.mg_of X G a3
  have F4 := fun_mk (st := top 11) l4 c4 k4
  have b4 := F4.binds (ps := ["thing"]) fun _ _ _ _ _ _ us hl => by obtain ⟨_, rfl⟩ := len_1 hl; rfl
  have m4 := PySem.W.mg_of X G a4
  have F5 := fun_mk (st := top 12) l5 c5 k5
  have b5 := F5.binds (ps := ["net"]) fun _ _ _ _ _ _ us hl => by obtain ⟨_, rfl⟩ := len_1 hl; rfl
  have m5 := PySem.W.mg_of X G a5
  have F6 := fun_mk (st := top 13) l6 c6 k6
  have b6 := F6.binds (ps := ["net"]) fun _ _ _ _ _ _ us hl => by obtain ⟨_, rfl⟩ := len_1 hl; rfl
  have m6 := PySem.W.mg_of X G a6
  have F7 := fun_mk (st := top 15) l7 c7 k7
  have b7 := F7.binds (ps := ["script"]) fun _ _ _ _ _ _ us hl => by obtain ⟨_, rfl⟩ := len_1 hl; rfl
  have m7 := PySem.W.mg_of X G a7
  have F8 := fun_mk (st := top 16) l8 c8 k8
  have b8 := F8.binds (ps := ["deck", "many"]) fun _ _ _ _ _ _ us hl => by obtain ⟨_, _, rfl⟩ := len_2 hl; rfl
  have m8 := PySem.W.mg_of X G a8
  have F9 := fun_mk (st := top 17) l9 c9 k9
  have b9 := F9.binds (ps := ["deck", "names", "deep"]) fun _ _ _ _ _ _ us hl => by obtain ⟨_, _, _, rfl⟩ := len_3 hl; rfl
  have m9 := PySem.W.mg_of X G a9
  have F10 := fun_mk (st := top 18) l10 c10 k10
  have b10 := F10.binds (ps := ["deck", "many"]) fun _ _ _ _ _ _ us hl => by obtain ⟨_, _, rfl⟩ := len_2 hl; rfl
  have m10 := PySem.W.mg_of X G a10
  have F11 := fun_mk (st := top 19) l11 c11 k11
  have b11 := F11.binds (ps := ["one", "other", "own"]) fun _ _ _ _ _ _ us hl => by obtain ⟨_, _, _, rfl⟩ := len_3 hl; rfl
  have m11 := PySem.W.mg_of X G a11
  have F12 := fun_mk (st := top 20) l12 c12 k12
  have b12 := F12.binds (ps := ["deck"]) fun _ _ _ _ _ _ us hl => by obtain ⟨_, rfl⟩ := len_1 hl; rfl
  have m12 := PySem.W.mg_of X G a12
  have F13 := fun_mk (st := top 21) l13 c13 k13
  have b13 := F13.binds (ps := ["deck"]) fun _ _ _ _ _ _ us hl => by obtain ⟨_, rfl⟩ := len_1 hl; rfl
  have m13 := PySem.W.mg_of X G a13
  have F14 := fun_mk (st := top 22) l14 c14 k14
  have b14 := F14.binds (ps := ["net"]) fun _ _ _ _ _ _ us hl => by obtain ⟨_, rfl⟩ := len_1 hl; rfl
  have m14 := PySem.W.mg_of X G a14
  have F15 := fun_mk (st := top 23) l15 c15 k15
  have b15 := F15.binds (ps := ["thing"]) fun _ _ _ _ _ _ us hl => by obtain ⟨_, rfl⟩ := len_1 hl; rfl
  have m15 := PySem.W.mg_of X G a15
  have F16 := fun_mk (st := top 24) l16 c16 k16
  have b16 := F16.binds (ps := ["thing", "names", "deep"]) fun _ _ _ _ _ _ us hl => by obtain ⟨_, _, _, rfl⟩ := len_3 hl; rfl
  have m16 := PySem.W.mg_of X G a16
  have F17 := fun_mk (st := top 25) l17 c17 k17
  have b17 := F17.binds (ps := ["thing"]) fun _ _ _ _ _ _ us hl => by obtain ⟨_, rfl⟩ := len_1 hl; rfl
  have m17 := PySem.W.mg_of X G a17
  have F18 := fun_mk (st := top 26) l18 c18 k18
  have b18 := F18.binds (ps := ["deck", "thing"]) fun _ _ _ _ _ _ us hl => by obtain ⟨_, _, rfl⟩ := len_2 hl; rfl
  have m18 := PySem.W.mg_of X G a18
  have F19 := fun_mk (st := top 27) l19 c19 k19
  have b19 := F19.binds (ps := ["deck", "rule"]) fun _ _ _ _ _ _ us hl => by obtain ⟨_, _, rfl⟩ := len_2 hl; rfl
  have m19 := PySem.W.mg_of X G a19
  have F20 := fun_mk (st := top 28) l20 c20 k20
  have b20 := F20.binds (ps := ["rule", "name", "other"]) fun _ _ _ _ _ _ us hl => by obtain ⟨_, _, _, rfl⟩ := len_3 hl; rfl
  have m20 := PySem.W.mg_of X G a20
  have F21 := fun_mk (st := top 29) l21 c21 k21
  have b21 := F21.binds (ps := ["deck", "net"]) fun _ _ _ _ _ _ us hl => by obtain ⟨_, _, rfl⟩ := len_2 hl; rfl
  have m21 := PySem.W.mg_of X G a21
  have F22 := fun_mk (st := top 30) l22 c22 k22
  have b22 := F22.binds (ps := ["deck", "net"]) fun _ _ _ _ _ _ us hl => by obtain ⟨_, _, rfl⟩ := len_2 hl; rfl
  have m22 := PySem.W.mg_of X G a22
  have F23 := fun_mk (st := top 31) l23 c23 k23
  have b23 := F23.binds (ps := ["name", "deep"]) fun _ _ _ _ _ _ us hl => by obtain ⟨_, _, rfl⟩ := len_2 hl; rfl
  have m23 := PySem.W.mg_of X G a23
  have F24 := fun_mk (st := top 32) l24 c24 k24
  have b24 := F24.binds (ps := ["deck"]) fun _ _ _ _ _ _ us hl => by obtain ⟨_, rfl⟩ := len_1 hl; rfl
  have m24 := PySem.W.mg_of X G a24
  have F25 := fun_mk (st := top 33) l25 c25 k25
  have b25 := F25.binds (ps := ["thing"]) fun _ _ _ _ _ _ us hl => by obtain ⟨_, rfl⟩ := len_1 hl; rfl
  have m25 := PySem.W.mg_of X G a25
  have F26 := fun_mk (st := top 34) l26 c26 k26
  have b26 := F26.binds (ps := ["thing"]) fun _ _ _ _ _ _ us hl => by obtain ⟨_, rfl⟩ := len_1 hl; rfl
  have m26 := PySem.W.mg_of X G a26
  have F27 := fun_mk (st := top 35) l27 c27 k27
  have b27 := F27.binds (ps := ["script"]) fun _ _ _ _ _ _ us hl => by obtain ⟨_, rfl⟩ := len_1 hl; rfl
  have m27 := PySem.W.mg_of X G a27
  refine ⟨PySem.W.fnOf "law" "law" (defArgs (top 35)) (defBody (top 35)) (defScope (top 35)) .none kV27 dc27 pm27 an27 cd27 ct27, fun s v => .of_eq rfl, fun base _ _ => ?_⟩
  have g7 : Fn l.prog w K mg base "_law_deck" ["script"] 1 (spDeck K) := ⟨f7, _, ok_deck F7 T, m7, k7, b7⟩
  have g8 : Fn l.prog w K mg base "_law_draw" ["deck", "many"] 1 spDraw := ⟨f8, _, ok_draw F8 T, m8, k8, b8⟩
  have g11 : Fn l.prog w K mg base "_law_held" ["one", "other", "own"] 1 spHeld := ⟨f11, _, ok_held F11 T, m11, k11, b11⟩
  have g12 : Fn l.prog w K mg base "_law_known" ["deck"] 2 spNet := ⟨f12, _, ok_known F12 T g8 g11, m12, k12, b12⟩
  have g10 : Fn l.prog w K mg base "_law_names" ["deck", "many"] 2 spNames := ⟨f10, _, ok_names F10 T g8, m10, k10, b10⟩
  have g9 : Fn l.prog w K mg base "_law_rule" ["deck", "names", "deep"] 11 (spRule 10) := ⟨f9, _, ok_rule F9 T g8 m9 k9 b9 10, m9, k9, b9⟩
  have g13 : Fn l.prog w K mg base "_law_net" ["deck"] 12 spNet := ⟨f13, _, ok_net F13 T g8 g12 g10 g9, m13, k13, b13⟩
  have g2 : Fn l.prog w K mg base "is_pair" ["thing"] 1 spPairT := ⟨f2, _, ok_pairT F2 T, m2, k2, b2⟩
  have g5 : Fn l.prog w K mg base "gates_of" ["net"] 1 spGatesT := ⟨f5, _, ok_gatesT F5 T, m5, k5, b5⟩
  have g6 : Fn l.prog w K mg base "wires_of" ["net"] 2 spWiresT := ⟨f6, _, ok_wiresT F6 T g5, m6, k6, b6⟩
  have g0 : Fn l.prog w K mg base "is_name" ["thing"] 1 spNameT := ⟨f0, _, ok_nameT F0 T, m0, k0, b0⟩
  have g3 : Fn l.prog w K mg base "are_unlike_names" ["things"] 2 spUnlikeT := ⟨f3, _, ok_unlikeT F3 T g0, m3, k3, b3⟩
  have g1 : Fn l.prog w K mg base "is_rule" ["thing", "wires", "depth"] 11 (spRuleT 11) := ⟨f1, _, ok_ruleT F1 T m1 k1 b1 11, m1, k1, b1⟩
  have g4 : Fn l.prog w K mg base "is_net" ["thing"] 12 spIsNetT := ⟨f4, _, ok_isnetT F4 T g2 g6 g3 g1, m4, k4, b4⟩
  have g15 : Fn l.prog w K mg base "_law_name_good" ["thing"] 1 spNameT := ⟨f15, _, ok_nameL F15 T, m15, k15, b15⟩
  have g16 : Fn l.prog w K mg base "_law_rule_good" ["thing", "names", "deep"] 11 (spRuleL 11) := ⟨f16, _, ok_ruleL F16 T m16 k16 b16 11, m16, k16, b16⟩
  have g17 : Fn l.prog w K mg base "_law_good" ["thing"] 12 spIsNetT := ⟨f17, _, ok_goodL F17 T g15 g16, m17, k17, b17⟩
  have g25 : Fn l.prog w K mg base "_law_deep" ["thing"] 21 (spDeepT 21) := ⟨f25, _, ok_deepT F25 T m25 k25 b25 21, m25, k25, b25⟩
  have g26 : Fn l.prog w K mg base "_law_right" ["thing"] 22 spRightT := ⟨f26, _, ok_rightT F26 T g17 g25 g4, m26, k26, b26⟩
  have g23 : Fn l.prog w K mg base "_law_deep_rule" ["name", "deep"] 1 spDeepR := ⟨f23, _, ok_deepR F23 T, m23, k23, b23⟩
  have g24 : Fn l.prog w K mg base "_law_fitting" ["deck"] 2 spFit := ⟨f24, _, ok_fit F24 T g8 g23, m24, k24, b24⟩
  have g14 : Fn l.prog w K mg base "_law_copy" ["net"] 1 spCopy := ⟨f14, _, ok_copy F14 T, m14, k14, b14⟩
  have g20 : Fn l.prog w K mg base "_law_read_as" ["rule", "name", "other"] 10 (spReadAs 10) := ⟨f20, _, ok_readas F20 T m20 k20 b20 10, m20, k20, b20⟩
  have g21 : Fn l.prog w K mg base "_law_named" ["deck", "net"] 11 spNamed := ⟨f21, _, ok_named F21 T g8 g20, m21, k21, b21⟩
  have g18 : Fn l.prog w K mg base "_law_odd" ["deck", "thing"] 2 spOdd := ⟨f18, _, ok_odd F18 T g8, m18, k18, b18⟩
  have g19 : Fn l.prog w K mg base "_law_bent" ["deck", "rule"] 12 (spBent 10) := ⟨f19, _, ok_bent F19 T g8 g18 m19 k19 b19 10, m19, k19, b19⟩
  have g22 : Fn l.prog w K mg base "_law_changed" ["deck", "net"] 13 spChanged := ⟨f22, _, ok_changed F22 T g14 g8 g21 g19 g18, m22, k22, b22⟩
  exact ok_law1 F27 T g7 g13 g4 g26 g24 g22 g23
theorem walk {l : PySem.W.OpenLaw} {q : Program} {loose : List Str} {XP : (Str → Option Value) → Heap → Prop} {YP : World → Heap → Prop} {d : DefRec} {K : Params → PySem.W.Frag} (hn : l.most = some 63) (hdf : d.params.defaults = [])
    (hY : ∀ (w : World) (h : Heap), YP w h → (K w.params).In h)
    (F : ∀ (w : World) (mg : Str → Option Value) (fa : Addr) (h : Heap), (K w.params).In h → h.Ns mainGlobals mg → mg d.name = some (.ref fa) →
      ∃ fd : FuncData, (∀ (s : Shared) (u : Value), BindsTo s fd ⟨[u], []⟩ [("script", u)]) ∧ ∀ base : Heap, (K w.params).In base → base.Ns mainGlobals mg → FnOk l.prog w (K w.params) mg base CX0 23 fa fd ["script"] (spLaw (K w.params))) :
    PySem.W.WalkO q loose XP YP l.row.toRowW d [] (fun f vs => PySem.call f vs) :=
  L2.walk_of (n := 63) (k := 23) (x := "script") (CX := fun _ => CX0) (sp := fun w => spLaw (K w.params)) hn (by decide) hdf ⟨rfl, by decide, by decide⟩ hY F (fun _ _ a ns hl _ hS => ⟨a, ns, rfl, hS, hl, fun _ => rfl⟩) fun _ _ _ _ _ z => z
theorem walkX {q : Program} {loose : List Str} {XP : (Str → Option Value) → Heap → Prop} {K : Params → PySem.W.Frag} {as : List Addr} {n t : Nat} {r : PySem.W.RowW} {d : DefRec} {kwd : List (Str × Expr)} {run : Value → List Value → Sem Value}
    (e : ∀ P, as = (K P).map (·.1)) (W : PySem.W.WalkO q loose XP (PySem.W.InK K) r d kwd run) : PySem.W.WalkX q loose XP (PySem.W.X.obsZ as) (PySem.W.X.valZ K n t) r d kwd run := by
  intro w s₀ s₁ mg mb G y a o pm cd doc dV kV h1 h2 h3 h4 h5 h6 args vals as' L p1 p2 p3 p4 p5
  exact W w s₀ s₁ mg mb G (PySem.W.InK.keeps _ _ _ (PySem.W.X.z_facts e y).2.1 L.keeps) a o pm cd doc dV kV h1 h2 h3 h4 h5 h6 args vals as' p1 p2 p3 p4 p5
end K2
open PySem PySem.W PyProof.Rows
set_option maxRecDepth 100000 in
set_option maxHeartbeats 0 in
theorem PySem.Challenge.cw_anydelay_k01_what_is_a_net_holds : PySem.Challenge.rw_anydelay_k01_what_is_a_net.Holds := by
  w_on; o_law; z_head; (case hw => w_witness2)
  k_fill
  refine K2.walkX (fun _ => by kernel_rfl) ?W
  case W =>
   refine K2.walk (l := PySem.Challenge.rw_anydelay_k01_what_is_a_net) rfl rfl (fun w h Y => Y) ?F
   case F =>
    intro w mg fa h KX G hmg
    refine' K2.all_mk KX G hmg ?aT ?tab ?a0 ?l0 ?c0 ?k0 ?a1 ?l1 ?c1 ?k1 ?a2 ?l2 ?c2 ?k2 ?a3 ?l3 ?c3 ?k3 ?a4 ?l4 ?c4 ?k4 ?a5 ?l5 ?c5 ?k5 ?a6 ?l6 ?c6 ?k6 ?a7 ?l7 ?c7 ?k7 ?a8 ?l8 ?c8 ?k8 ?a9 ?l9 ?c9 ?k9 ?a10 ?l10 ?c10 ?k10 ?a11 ?l11 ?c11 ?k11 ?a12 ?l12 ?c12 ?k12 ?a13 ?l13 ?c13 ?k13 ?a14 ?l14 ?c14 ?k14 ?a15 ?l15 ?c15 ?k15 ?a16 ?l16 ?c16 ?k16 ?a17 ?l17 ?c17 ?k17 ?a18 ?l18 ?c18 ?k18 ?a19 ?l19 ?c19 ?k19 ?a20 ?l20 ?c20 ?k20 ?a21 ?l21 ?c21 ?k21 ?a22 ?l22 ?c22 ?k22 ?a23 ?l23 ?c23 ?k23 ?a24 ?l24 ?c24 ?k24 ?a25 ?l25 ?c25 ?k25 ?a26 ?l26 ?c26 ?k26 ?a27 ?l27 ?c27 ?k27 ?cn0 ?cn1 ?cn2 ?cn3 ?cn4 ?z0 ?z1 ?z2 ?z3 ?z4 ?z5 ?z6 ?z7 ?z8 ?z9 ?z10 ?z11 ?z12 ?z13 ?z14 ?z15 ?z16
    (case aT => k_is)
    (case tab => first | rfl | decide | decide +kernel)
    (case a0 => k_is); (case l0 => k_is); (case c0 => k_is); (case k0 => k_is)
    (case a1 => k_is); (case l1 => k_is); (case c1 => k_is); (case k1 => k_is)
    (case a2 => k_is); (case l2 => k_is); (case c2 => k_is); (case k2 => k_is)
    (case a3 => k_is); (case l3 => k_is); (case c3 => k_is); (case k3 => k_is)
    (case a4 => k_is); (case l4 => k_is); (case c4 => k_is); (case k4 => k_is)
    (case a5 => k_is); (case l5 => k_is); (case c5 => k_is); (case k5 => k_is)
    (case a6 => k_is); (case l6 => k_is); (case c6 => k_is); (case k6 => k_is)
    (case a7 => k_is); (case l7 => k_is); (case c7 => k_is); (case k7 => k_is)
    (case a8 => k_is); (case l8 => k_is); (case c8 => k_is); (case k8 => k_is)
    (case a9 => k_is); (case l9 => k_is); (case c9 => k_is); (case k9 => k_is)
    (case a10 => k_is); (case l10 => k_is); (case c10 => k_is); (case k10 => k_is)
    (case a11 => k_is); (case l11 => k_is); (case c11 => k_is); (case k11 => k_is)
    (case a12 => k_is); (case l12 => k_is); (case c12 => k_is); (case k12 => k_is)
    (case a13 => k_is); (case l13 => k_is); (case c13 => k_is); (case k13 => k_is)
    (case a14 => k_is); (case l14 => k_is); (case c14 => k_is); (case k14 => k_is)
    (case a15 => k_is); (case l15 => k_is); (case c15 => k_is); (case k15 => k_is)
    (case a16 => k_is); (case l16 => k_is); (case c16 => k_is); (case k16 => k_is)
    (case a17 => k_is); (case l17 => k_is); (case c17 => k_is); (case k17 => k_is)
    (case a18 => k_is); (case l18 => k_is); (case c18 => k_is); (case k18 => k_is)
    (case a19 => k_is); (case l19 => k_is); (case c19 => k_is); (case k19 => k_is)
    (case a20 => k_is); (case l20 => k_is); (case c20 => k_is); (case k20 => k_is)
    (case a21 => k_is); (case l21 => k_is); (case c21 => k_is); (case k21 => k_is)
    (case a22 => k_is); (case l22 => k_is); (case c22 => k_is); (case k22 => k_is)
    (case a23 => k_is); (case l23 => k_is); (case c23 => k_is); (case k23 => k_is)
    (case a24 => k_is); (case l24 => k_is); (case c24 => k_is); (case k24 => k_is)
    (case a25 => k_is); (case l25 => k_is); (case c25 => k_is); (case k25 => k_is)
    (case a26 => k_is); (case l26 => k_is); (case c26 => k_is); (case k26 => k_is)
    (case a27 => k_is); (case l27 => k_is); (case c27 => k_is); (case k27 => k_is)
    (case cn0 => k_is)
    (case cn1 => k_is)
    (case cn2 => k_is)
    (case cn3 => k_is)
    (case cn4 => k_is)
    (case z0 => k_is)
    (case z1 => k_is)
    (case z2 => k_is)
    (case z3 => k_is)
    (case z4 => k_is)
    (case z5 => k_is)
    (case z6 => k_is)
    (case z7 => k_is)
    (case z8 => k_is)
    (case z9 => k_is)
    (case z10 => k_is)
    (case z11 => k_is)
    (case z12 => k_is)
    (case z13 => k_is)
    (case z14 => k_is)
    (case z15 => k_is)
    (case z16 => k_is)
