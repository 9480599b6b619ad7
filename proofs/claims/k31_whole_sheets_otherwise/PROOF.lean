import PyProof.Rows.All
import Wide.All
import OpenK.AllK
import Wide.FinOn
import Lean
import PyProof.EqAt
import PyProof.EqKinds
import PyProof.TupleCall
import PyProof.NeKinds
import KE.KTabLook
import KE.KIntText
import KE.KUnpack
import PyProof.StrBlock2
import KE.KLam
import KE.KDictLaws
import PyProof.DictWalks
import PyProof.Rows.StrInSeq3
import PyProof.FactsAll.list_1
import PyProof.CompUse
import PyProof.ZipIter
import PyProof.Draws
import PyProof.AttrMissHeap
import PyProof.DictUpdate
import PyProof.ListNew
import PyProof.FactsAll.dict_1
import PyProof.Rows.DictSet
import PyProof.Rows.SeqIn
import PyProof.ListRange
import PyProof.ForAppend
import PySem.Challenge.RW_anydelay_k31_whole_sheets_otherwise
noncomputable section
-- CHANGE: your row's module here, as the last of these rows
set_option Elab.async false
set_option linter.all false
set_option maxRecDepth 100000
namespace L2
open PySem PySem.Spec PyProof.Rows

abbrev Key := Sum Int Str
noncomputable def keyIs : Key → Value → Bool
  | .inl k, v => Value.isInt k v
  | .inr x, v => Value.isStrOf x v
noncomputable def keyH (w : World) : Key → Int
  | .inl k => hashInt k
  | .inr x => hashStr w x
theorem keyIs_shape : ∀ {k : Key} {v : Value}, keyIs k v = true → (∃ i t, k = Sum.inl i ∧ v = Value.int i t) ∨ (∃ x t, k = Sum.inr x ∧ v = Value.str x t)
  | .inl i, v, h => by
    obtain ⟨t, e⟩ := Value.isInt_shape (k := i) (v := v) h
    exact .inl ⟨i, t, rfl, e⟩
  | .inr x, v, h => by
    obtain ⟨t, e⟩ := Value.isStrOf_shape (x := x) (v := v) h
    exact .inr ⟨x, t, rfl, e⟩
theorem keyIs_int (i : Int) (t : Tok) : keyIs (.inl i) (.int i t) = true := by simp [keyIs, Value.isInt]
theorem keyIs_str (x : Str) (t : Tok) : keyIs (.inr x) (.str x t) = true := by simp [keyIs, Value.isStrOf]
theorem key_ll (a b : Int) : decide ((Sum.inl a : Key) = Sum.inl b) = (a == b) := by
  by_cases e : a = b
  · subst e; simp
  · have h : ¬ (Sum.inl a : Key) = Sum.inl b := fun q => e (Sum.inl.inj q)
    rw [decide_eq_false h]
    exact (beq_eq_false_iff_ne.mpr e).symm
theorem key_rr (a b : Str) : decide ((Sum.inr a : Key) = Sum.inr b) = decide (a = b) := by
  by_cases e : a = b
  · subst e; simp
  · have h : ¬ (Sum.inr a : Key) = Sum.inr b := fun q => e (Sum.inr.inj q)
    rw [decide_eq_false h, decide_eq_false e]
theorem key_lr (a : Int) (b : Str) : decide ((Sum.inl a : Key) = Sum.inr b) = false := decide_eq_false (fun q => nomatch q)
theorem key_rl (a : Str) (b : Int) : decide ((Sum.inr a : Key) = Sum.inl b) = false := decide_eq_false (fun q => nomatch q)

noncomputable def mixKind (prog : Program) (w : World) : PySem.KeyKind prog w Key where
  is := keyIs
  hash := keyH w
  inj := fun v a b ha hb => by
    rcases keyIs_shape ha with ⟨i, t, rfl, rfl⟩ | ⟨x, t, rfl, rfl⟩
    · rcases keyIs_shape hb with ⟨j, u, rfl, e⟩ | ⟨y, u, rfl, e⟩
      · injection e with e1 _; rw [e1]
      · exact nomatch e
    · rcases keyIs_shape hb with ⟨j, u, rfl, e⟩ | ⟨y, u, rfl, e⟩
      · exact nomatch e
      · injection e with e1 _; rw [e1]
  byValue := fun k v h => by
    rcases keyIs_shape h with ⟨i, t, rfl, rfl⟩ | ⟨x, t, rfl, rfl⟩ <;> rfl
  pyHash := fun hv h => by
    rcases keyIs_shape hv with ⟨i, t, rfl, rfl⟩ | ⟨x, t, rfl, rfl⟩
    · exact wpAny_pyHash_int h
    · exact wpAny_pyHash_str h
  eqBool := fun hu hv h => by
    rcases keyIs_shape hu with ⟨i, t, rfl, rfl⟩ | ⟨x, t, rfl, rfl⟩
    · rcases keyIs_shape hv with ⟨j, u, rfl, rfl⟩ | ⟨y, u, rfl, rfl⟩
      · rw [key_ll] at h; exact wpAny_eqBool_int h
      · rw [key_lr] at h; exact SeqAt.EqAt.int_str i t y u _ _ _ _ h
    · rcases keyIs_shape hv with ⟨j, u, rfl, rfl⟩ | ⟨y, u, rfl, rfl⟩
      · rw [key_rl] at h; exact SeqAt.EqAt.str_int x t j u _ _ _ _ h
      · rw [key_rr] at h; exact wpAny_eqBool_str h
  «strs» := fun k x t v h => by
    rcases keyIs_shape h with ⟨i, u, rfl, e⟩ | ⟨y, u, rfl, e⟩
    · exact nomatch e
    · injection e with e1 _
      subst e1
      cases v <;> rfl

theorem mixKind_int (prog : Program) (w : World) (i : Int) (t : Tok) : (mixKind prog w).is (.inl i) (.int i t) = true := keyIs_int i t
theorem mixKind_str (prog : Program) (w : World) (x : Str) (t : Tok) : (mixKind prog w).is (.inr x) (.str x t) = true := keyIs_str x t
end L2

namespace L2
open PySem PySem.Spec PyProof.Rows

inductive V where
  | non | bl (b : Bool) | int (i : Int) | str (x : Str) | byt (b : Array UInt8) | flt (b : UInt64) | ref (a : Addr) | ty (n : String)
  deriving DecidableEq

noncomputable def RelV : V → Value → Prop
  | .non, u => u = Value.none
  | .bl b, u => u = Value.bool b
  | .int i, u => ∃ t, u = Value.int i t
  | .str x, u => ∃ t, u = Value.str x t
  | .byt b, u => ∃ t, u = Value.bytes b t
  | .flt b, u => ∃ t, u = Value.float b t
  | .ref a, u => u = Value.ref a
  | .ty n, u => u = Value.type n

abbrev Vals : List V → List Value → Prop := Paired RelV
theorem Vals.length {xs : List V} {us : List Value} (r : Vals xs us) : xs.length = us.length := Paired.length r
theorem Vals.get : ∀ {xs : List V} {us : List Value} {i : Nat} {x : V}, Vals xs us → xs[i]? = some x → ∃ u, us[i]? = some u ∧ RelV x u
  | _, _, _, _, .nil, e => by simp at e
  | _, _, 0, _, .cons r _, e => by simp at e; subst e; exact ⟨_, rfl, r⟩
  | _, _, i + 1, x, .cons _ t, e => by
    obtain ⟨u, h1, h2⟩ := Vals.get (i := i) (x := x) t (by simpa using e)
    exact ⟨u, by simpa using h1, h2⟩
theorem Vals.set {x : V} {u : Value} (r : RelV x u) : ∀ {xs : List V} {us : List Value} (i : Nat), Vals xs us → Vals (xs.set i x) (us.set i u)
  | _, _, _, .nil => .nil
  | _, _, 0, .cons _ t => .cons r t
  | _, _, i + 1, .cons q t => .cons q (Vals.set r i t)
theorem Vals.append : ∀ {xs ys : List V} {us ws : List Value}, Vals xs us → Vals ys ws → Vals (xs ++ ys) (us ++ ws)
  | _, _, _, _, .nil, s => s
  | _, _, _, _, .cons r t, s => .cons r (Vals.append t s)
theorem Vals.take : ∀ {xs : List V} {us : List Value} (n : Nat), Vals xs us → Vals (xs.take n) (us.take n)
  | _, _, 0, _ => .nil
  | _, _, _ + 1, .nil => .nil
  | _, _, n + 1, .cons r t => .cons r (Vals.take n t)
theorem Vals.drop : ∀ {xs : List V} {us : List Value} (n : Nat), Vals xs us → Vals (xs.drop n) (us.drop n)
  | _, _, 0, r => r
  | _, _, _ + 1, .nil => .nil
  | _, _, n + 1, .cons _ t => Vals.drop n t

noncomputable def RelO : Option V → Option Value → Prop
  | some v, some u => RelV v u
  | none, none => True
  | _, _ => False
noncomputable def KV {κ : Type} : List (κ × V) → List (κ × Value) → Prop := Paired fun (p : κ × V) (q : κ × Value) => p.1 = q.1 ∧ RelV p.2 q.2

noncomputable def kV : Key → V
  | .inl i => .int i
  | .inr x => .str x

inductive HO where
  /-- a list -/
  | lst (xs : List V)
  /-- a tuple (never changes) -/
  | tup (xs : List V)
  /-- a dict whose keys are ints and texts; one whose keys are tuples of ints and texts (the empty one is both) -/
  | dK (kvs : List (Key × V)) | dT (kvs : List (List Key × V))
  /-- a set of ints: its members, its size -/
  | set (S : Int → Bool) (n : Nat)
  /-- an instance of the class at C, its dict at dx, its attributes -/
  | ins (C dx : Addr) (fs : List (Str × V))
  /-- the dict of the instance at x -/
  | own (x : Addr)
  /-- the dict of an exception -/
  | xd (fs : List (Str × V))
  /-- a bound method, f of x -/
  | met (f x : Addr)
  /-- a range object lo, lo + 1, .. below hi -/
  | rng (lo hi : Int)
  /-- a thing that is known to the object (the script; a dict while a loop walks it): read, never written while it is so -/
  | frz (o : Obj) (u : HO)
  /-- a code object's table -/
  | tbl (ps : Array Value)
  /-- any other thing, by what is true of its one object (a def of one's own: SetO a S n := HO.ext fun h => ..) -/
  | ext (φ : Heap → Prop)

abbrev Hp := Addr → Option HO
noncomputable def upd (H : Hp) (a : Addr) (o : HO) : Hp := fun b => if b = a then some o else H b
theorem upd_same {H : Hp} {a : Addr} {o : HO} : upd H a o a = some o := by unfold upd; rw [if_pos rfl]
theorem upd_ne {H : Hp} {a b : Addr} {o : HO} (h : b ≠ a) : upd H a o b = H b := by unfold upd; rw [if_neg h]
theorem upd_upd {H : Hp} {a : Addr} {o u : HO} : upd (upd H a o) a u = upd H a u := by
  funext b; unfold upd; split <;> rfl
theorem ne_of {H : Hp} {a b : Addr} {o u : HO} (h : H a = some o) (h' : H b = some u) (d : o ≠ u) : a ≠ b := by
  intro e; subst e; rw [h] at h'; exact d (Option.some.inj h')
theorem ne_of_none {H : Hp} {a b : Addr} {o : HO} (h : H a = some o) (h' : H b = none) : a ≠ b := by
  intro e; subst e; rw [h] at h'; cases h'

section
variable (P : Program) (w : World)
noncomputable def ObjOk (H : Hp) (h : Heap) (a : Addr) : HO → Prop
  | .lst xs => xs.length ≤ sizeLine ∧ ∃ (its : List Value) (n : Nat), Vals xs its ∧ h.get? a = some { cls := .type "list", data := .seq its.toArray n }
  | .tup xs => xs.length ≤ sizeLine ∧ ∃ its : List Value, Vals xs its ∧ IsTup h a its.toArray
  | .dK kvs => kvs.length ≤ sizeLine ∧ (a == sysModules) = false ∧ ∃ vs, KV kvs vs ∧ h.DictOf (mixKind P w) a vs
  | .dT kvs => kvs.length ≤ sizeLine ∧ (a == sysModules) = false ∧ ∃ xs : List (List Key × Addr × Value),
      Paired (fun (p : List Key × V) (q : List Key × Addr × Value) => p.1 = q.1 ∧ H q.2.1 = some (.tup (p.1.map kV)) ∧ RelV p.2 q.2.2) kvs xs ∧
      ∃ o es ep, h.get? a = some o ∧ o.ExactDict ∧ o.data = .dict es ep ∧ es.toList = xs.map (entryOfKey (tupleKind (mixKind P w))) ∧ (xs.map (·.1)).Nodup
  | .set S n => h.SetOf (intKind P w) a S n
  | .ins C dx fs => H dx = some (.own a) ∧ fs.length ≤ 1000 ∧ dx ≠ a ∧ h.get? a = some (PySem.W.instObj C dx) ∧
      ∃ mA, h.Ns1 dx mA ∧ (∀ f, RelO (fs.lookup f) (mA f)) ∧ PySem.Within mA (fs.map (·.1))
  | .own _ => ∃ o, h.get? a = some o
  | .xd fs => ∃ mA, h.Ns1 a mA ∧ ∀ f, RelO (fs.lookup f) (mA f)
  | .rng lo hi => ∃ t u v, h.get? a = some { cls := .type "range", data := .fields #[.int lo t, .int hi u, .int 1 v] }
  | .frz o u => h.get? a = some o ∧ ObjOk H h a u
  | .tbl ps => h.get? a = some { cls := .none, data := .fields ps }
  | .met f x => h.get? a = some (PySem.W.methodObj (.ref f) (.ref x))
  | .ext φ => φ h ∧ (∃ o, h.get? a = some o) ∧ ∀ h1 h2 : Heap, φ h1 → (∀ o, h1.get? a = some o → h2.get? a = some o) → φ h2
noncomputable def HOk (H : Hp) (h : Heap) : Prop := ∀ a o, H a = some o → ObjOk P w H h a o
end

section
variable {P : Program} {w : World} {H H' : Hp} {h h' : Heap} {a : Addr} {o : HO}
theorem ObjOk.lt (x : ObjOk P w H h a o) : a < h.objs.size := by
  cases o with
  | lst xs => obtain ⟨_, _, _, _, e⟩ := x; exact Heap.lt_size e
  | tup xs => obtain ⟨_, _, _, p⟩ := x; exact p.lt
  | dK kvs => obtain ⟨_, _, _, _, o, _, _, e, _⟩ := x; exact Heap.lt_size e
  | dT kvs => obtain ⟨_, _, _, _, o, _, _, e, _⟩ := x; exact Heap.lt_size e
  | set S n => obtain ⟨o, _, _, _, e, _⟩ := x; exact Heap.lt_size e
  | ins C dx fs => obtain ⟨_, _, _, e, _⟩ := x; exact Heap.lt_size e
  | own y => obtain ⟨_, e⟩ := x; exact Heap.lt_size e
  | xd fs => obtain ⟨_, ⟨_, _, _, e, _⟩, _⟩ := x; exact Heap.lt_size e
  | rng lo hi => obtain ⟨_, _, _, e⟩ := x; exact Heap.lt_size e
  | frz ob u => obtain ⟨e, _⟩ := x; exact Heap.lt_size e
  | tbl ps => exact Heap.lt_size (show h.get? a = some _ from x)
  | met f y => exact Heap.lt_size (show h.get? a = some _ from x)
  | ext φ => obtain ⟨_, ⟨_, e⟩, _⟩ := x; exact Heap.lt_size e
theorem Paired.mapP {α β : Type} {F G : α → β → Prop} : ∀ {l₁ : List α} {l₂ : List β}, Paired F l₁ l₂ → (∀ a b, F a b → G a b) → Paired G l₁ l₂
  | _, _, .nil, _ => .nil
  | _, _, .cons r t, f => .cons (f _ _ r) (Paired.mapP t f)
theorem ObjOk.stay (x : ObjOk P w H h a o) (k : ∀ b u, (b = a ∨ H b = some (.own a)) → h.get? b = some u → h'.get? b = some u)
    (ho : ∀ b, H b = some (.own a) → H' b = some (.own a)) (ht : ∀ b xs, H b = some (.tup xs) → H' b = some (.tup xs)) : ObjOk P w H' h' a o := by
  induction o with
  | lst xs => obtain ⟨z, its, n, r, e⟩ := x; exact ⟨z, its, n, r, k _ _ (.inl rfl) e⟩
  | tup xs => obtain ⟨z, its, r, ob, e, c⟩ := x; exact ⟨z, its, r, ob, k _ _ (.inl rfl) e, c⟩
  | dK kvs => obtain ⟨z, y, vs, r, ob, es, ep, e, c⟩ := x; exact ⟨z, y, vs, r, ob, es, ep, k _ _ (.inl rfl) e, c⟩
  | dT kvs =>
    obtain ⟨z, y, xs, r, ob, es, ep, e, c⟩ := x
    exact ⟨z, y, xs, Paired.mapP r fun p q z => ⟨z.1, ht _ _ z.2.1, z.2.2⟩, ob, es, ep, k _ _ (.inl rfl) e, c⟩
  | set S n => obtain ⟨ob, es, ep, t, e, c⟩ := x; exact ⟨ob, es, ep, t, k _ _ (.inl rfl) e, c⟩
  | ins C dx fs =>
    obtain ⟨d, z, ne, e, mA, ⟨od, es, ep, e2, c⟩, r⟩ := x
    exact ⟨ho _ d, z, ne, k _ _ (.inl rfl) e, mA, ⟨od, es, ep, k _ _ (.inr d) e2, c⟩, r⟩
  | own y => obtain ⟨ob, e⟩ := x; exact ⟨ob, k _ _ (.inl rfl) e⟩
  | xd fs => obtain ⟨mA, ⟨od, es, ep, e, c⟩, r⟩ := x; exact ⟨mA, ⟨od, es, ep, k _ _ (.inl rfl) e, c⟩, r⟩
  | rng lo hi => obtain ⟨t, u, v, e⟩ := x; exact ⟨t, u, v, k _ _ (.inl rfl) e⟩
  | frz ob u ih => obtain ⟨e, q⟩ := x; exact ⟨k _ _ (.inl rfl) e, ih q⟩
  | tbl ps =>
    have e : h.get? a = some { cls := .none, data := .fields ps } := x
    show h'.get? a = some { cls := .none, data := .fields ps }
    exact k a _ (.inl rfl) e
  | met f y =>
    have e : h.get? a = some (PySem.W.methodObj (.ref f) (.ref y)) := x
    show h'.get? a = some (PySem.W.methodObj (.ref f) (.ref y))
    exact k a _ (.inl rfl) e
  | ext φ => obtain ⟨p, ⟨o, e⟩, st⟩ := x; exact ⟨st _ _ p fun o q => k _ _ (.inl rfl) q, ⟨o, k _ _ (.inl rfl) e⟩, st⟩
theorem HOk.lt (x : HOk P w H h) (e : H a = some o) : a < h.objs.size := (x a o e).lt
theorem HOk.fresh (x : HOk P w H h) (e : h.objs.size ≤ a) : H a = none := by
  cases q : H a with
  | none => rfl
  | some u => exact absurd (Nat.lt_of_lt_of_le (x.lt q) e) (Nat.lt_irrefl _)
theorem HOk.kept (x : HOk P w H h) (k : ∀ b u, h.get? b = some u → h'.get? b = some u) : HOk P w H h' := fun a o e =>
  (x a o e).stay (fun b u _ q => k b u q) (fun _ q => q) fun _ _ q => q
theorem HOk.laid (x : HOk P w H h) (k : ∀ b u, h.get? b = some u → h'.get? b = some u) (hp : h.objs.size ≤ a) (new : ObjOk P w (upd H a o) h' a o) : HOk P w (upd H a o) h' := fun b u e => by
  have hn := x.fresh hp
  by_cases hb : b = a
  · subst hb; rw [upd_same] at e; cases e; exact new
  · rw [upd_ne hb] at e
    exact (x b u e).stay (fun c v _ q => k c v q) (fun c q => by rw [upd_ne (ne_of_none q hn)]; exact q) fun c xs q => by rw [upd_ne (ne_of_none q hn)]; exact q
end

noncomputable def Rd (H : Hp) (a : Addr) (u : HO) : Prop := H a = some u ∨ ∃ o, H a = some (.frz o u)
theorem Rd.ok {P : Program} {w : World} {H : Hp} {h : Heap} {a : Addr} {u : HO} (r : Rd H a u) (x : HOk P w H h) : ObjOk P w H h a u := by
  rcases r with r | ⟨o, r⟩
  · exact x a u r
  · obtain ⟨_, q⟩ := x a _ r
    exact q
noncomputable def Mut : Option HO → Prop
  | some (.lst _) => True
  | some (.dK _) => True
  | some (.dT _) => True
  | some (.set _ _) => True
  | some (.ins _ _ _) => True
  | some (.ext _) => True
  | _ => False
section
variable {P : Program} {w : World} {H : Hp} {h h' : Heap} {x e : Addr} {o' : HO}
theorem HOk.write (ok : HOk P w H h) (mu : Mut (H x)) (he : e = x ∨ H e = some (.own x)) (k : ∀ b u, b ≠ e → h.get? b = some u → h'.get? b = some u) (heo : ∃ u, h'.get? e = some u)
    (new : ObjOk P w (upd H x o') h' x o') : HOk P w (upd H x o') h' := fun b u q => by
  have nown : ∀ c y, H c = some (.own y) → c ≠ x := fun c y r z => by subst z; rw [r] at mu; exact mu
  have ntup : ∀ c xs, H c = some (.tup xs) → c ≠ x := fun c xs r z => by subst z; rw [r] at mu; exact mu
  by_cases hb : b = x
  · subst hb; rw [upd_same] at q; cases q; exact new
  · rw [upd_ne hb] at q
    by_cases hbe : b = e
    · have q' : H b = some (.own x) := by
        rcases he with z | z
        · exact absurd (hbe.trans z) hb
        · rw [hbe]; exact z
      rw [q] at q'; cases q'
      obtain ⟨v, hv⟩ := heo
      exact ⟨v, by rw [hbe]; exact hv⟩
    · refine (ok b u q).stay (fun c v hc r => k c v ?_ r) (fun c r => by rw [upd_ne (nown c b r)]; exact r) fun c xs r => by rw [upd_ne (ntup c xs r)]; exact r
      rcases hc with rfl | hc
      · exact hbe
      · rintro rfl
        rcases he with z | z
        · exact nown c b hc z
        · rw [hc] at z; cases z; exact hb rfl
end

structure Un (fs ex : List Addr) (H H' : Hp) (h h' : Heap) : Prop where
  keep : ∀ b o, h.get? b = some o → H b = none → b ∉ fs → b ∉ ex → h'.get? b = some o
  slot : ∀ b o, h.get? b = some o → H b = none → b ∈ fs → b ∉ ex → ∃ sl, h'.get? b = some { o with slots := sl }
  free : ∀ b o, h.get? b = some o → H b = none → b ∉ ex → H' b = none
  there : ∀ b o, h.get? b = some o → b ∉ ex → ∃ o', h'.get? b = some o'
  tups : ∀ b xs, H b = some (.tup xs) → H' b = some (.tup xs)
  frzs : ∀ b o u, H b = some (.frz o u) → H' b = some (.frz o u)
  tbls : ∀ b ps, H b = some (.tbl ps) → ∃ more, H' b = some (.tbl (ps ++ more))
section
variable {fs fs' ex ex' : List Addr} {H H1 H2 : Hp} {h h1 h2 h' : Heap} {a x e : Addr} {o : HO}
theorem Un.any (u : Un fs ex H H1 h h1) {b : Addr} {ob : Obj} (q : h.get? b = some ob) (n : H b = none) (hx : b ∉ ex) : ∃ sl, h1.get? b = some { ob with slots := sl } := by
  by_cases hb : b ∈ fs
  · exact u.slot b ob q n hb hx
  · exact ⟨ob.slots, u.keep b ob q n hb hx⟩
theorem Un.kept (k : ∀ b u, h.get? b = some u → h'.get? b = some u) : Un fs ex H H h h' :=
  ⟨fun b ob q _ _ _ => k b ob q, fun b ob q _ _ _ => ⟨ob.slots, k b ob q⟩, fun _ _ _ n _ => n, fun b ob q _ => ⟨ob, k b ob q⟩, fun _ _ q => q, fun _ _ _ q => q, fun _ ps q => ⟨#[], by rw [q]; simp⟩⟩
theorem Un.refl : Un fs ex H H h h := Un.kept fun _ _ q => q
theorem Un.laid (k : ∀ b u, h.get? b = some u → h'.get? b = some u) (hp : h.objs.size ≤ a) (hn : H a = none) : Un fs ex H (upd H a o) h h' where
  keep := fun b u q _ _ _ => k b u q
  slot := fun b u q _ _ _ => ⟨u.slots, k b u q⟩
  free := fun b u q n _ => by rw [upd_ne (Nat.ne_of_lt (Nat.lt_of_lt_of_le (Heap.lt_size q) hp))]; exact n
  there := fun b u q _ => ⟨u, k b u q⟩
  tups := fun b xs q => by rw [upd_ne (ne_of_none q hn)]; exact q
  frzs := fun b u xs q => by rw [upd_ne (ne_of_none q hn)]; exact q
  tbls := fun b ps q => ⟨#[], by rw [upd_ne (ne_of_none q hn), q]; simp⟩
theorem Un.write (mu : Mut (H x)) (he : e = x ∨ H e = some (.own x)) (k : ∀ b u, b ≠ e → h.get? b = some u → h'.get? b = some u) (heo : ∃ u, h'.get? e = some u) : Un fs ex H (upd H x o) h h' := by
  have hx : ∀ b, H b = none → b ≠ x := fun b n z => by subst z; rw [n] at mu; exact mu
  have hb : ∀ b, H b = none → b ≠ e := fun b n z => by
    subst z
    rcases he with r | r
    · exact hx b n r
    · rw [n] at r; cases r
  have hm : ∀ b u, H b = some u → ¬ Mut (some u) → b ≠ x := fun b u q nm z => by subst z; rw [q] at mu; exact nm mu
  refine ⟨fun b u q n _ _ => k b u (hb b n) q, fun b u q n _ _ => ⟨u.slots, k b u (hb b n) q⟩, fun b u q n _ => by rw [upd_ne (hx b n)]; exact n, fun b u q _ => ?_,
    fun b xs q => by rw [upd_ne (hm b _ q fun z => z)]; exact q, fun b u xs q => by rw [upd_ne (hm b _ q fun z => z)]; exact q, fun b ps q => ⟨#[], by rw [upd_ne (hm b _ q fun z => z), q]; simp⟩⟩
  by_cases hbe : b = e
  · subst hbe; exact heo
  · exact ⟨u, k b u hbe q⟩
end

noncomputable def trk (h : Heap) (H : Hp) : List Addr := (List.range h.objs.size).filter fun a => (H a).isSome
noncomputable def hidT (h : Heap) (H : Hp) : Heap := PySem.W.hideAll h (trk h H)
theorem hidT_size (h : Heap) (H : Hp) : (hidT h H).objs.size = h.objs.size := PySem.W.hideAll_size _ _
theorem hidT_get {h : Heap} {H : Hp} {b : Addr} {o : Obj} (e : h.get? b = some o) (n : H b = none) : (hidT h H).get? b = some o :=
  PySem.W.hideAll_get _ e fun hm => by
    have q : (H b).isSome = true := (List.mem_filter.mp hm).2
    rw [n] at q; simp at q
theorem of_hidT {h : Heap} {H : Hp} {b : Addr} {o : Obj} (e : (hidT h H).get? b = some o) : h.get? b = some o ∧ H b = none := by
  have e' : h.get? b = some o := PySem.W.of_hideAll (trk h H) e
  refine ⟨e', ?_⟩
  cases q : H b with
  | none => rfl
  | some x =>
    have hm : b ∈ trk h H := List.mem_filter.mpr ⟨List.mem_range.mpr (Heap.lt_size e'), by simp [q]⟩
    have z : (hidT h H).get? b = none := PySem.W.hideAll_none (trk h H) hm
    rw [z] at e; cases e

noncomputable def allNews (g h : Heap) (L : Addr) : List (Addr × Obj) := (List.range h.objs.size).filterMap fun a => if a = L ∨ (g.get? a).isSome = true then none else (h.get? a).map fun o => (a, o)
noncomputable def rest (g h : Heap) (L d : Addr) : List (Addr × Obj) := (allNews g h L).filter fun p => decide (p.1 ≠ d)
end L2

namespace L2
open PySem PySem.Spec PyProof.Rows

structure Mod (K : PySem.W.Frag) (mg : Str → Option Value) (base : Heap) : Prop where
  kin : K.In base
  glob : base.Ns mainGlobals mg
  blt : ∃ mb, base.Ns builtinsNs mb ∧ ∀ x : Str, x ≠ "__name__" → mb x = bootBuiltins x
  nolimit : base.NoLimit

/-- the context: a def's body (or a comprehension's block) running. base: fixed through the whole law; s₀, H₀: the entry; outer: the frames whose slots others may change (a def's callers); stack: all frames that run;
   ex: iterators that were made ahead of the entry and are walked here (a comprehension's); fn: the names whose cells were made at the entry (a def: all; a comprehension's block: its own); calm: not within an except suite; pn: pins that every state bears; xe: what is wanted of an exception that leaves the code -/
structure Cx where
  prog : Program
  w : World
  K : PySem.W.Frag
  mg : Str → Option Value
  base : Heap
  A : Around
  N : List Str
  s₀ : Shared
  H₀ : Hp
  env : Env
  outer : List Env
  stack : List Env
  ex : List Addr
  fn : Str → Bool
  calm : Bool
  pn : List (Addr × Obj)
  xe : Value → Shared → Prop
noncomputable def frs (l : List Env) : List Addr := l.filterMap (·.frame)
abbrev Cx.fs (X : Cx) : List Addr := frs X.outer

noncomputable def Vis (sc : Scope) (x : Str) : Prop := sc.names.lookup x = some .local ∨ sc.names.lookup x = some .cell ∨ sc.names.lookup x = some .free
noncomputable def Loc (sc : Scope) (x : Str) : Prop := sc.names.lookup x = some .local ∨ sc.names.lookup x = some .cell
noncomputable def Look (env : Env) (h : Heap) (m : Str → Option Value) (x : Str) (u : Value) : Prop :=
  (env.kindOf x = some .local ∧ m x = some u) ∨ ((env.kindOf x = some .cell ∨ env.kindOf x = some .free) ∧ ∃ c, env.cells.lookup x = some c ∧ h.IsCell c (some u))

structure Cx.Ok (X : Cx) : Prop where
  mod : Mod X.K X.mg X.base
  kind : X.env.scope.kind = .function
  glob : X.env.globals = mainGlobals
  blt : X.env.builtins = builtinsNs
  above : X.s₀.heap.objs.size ≤ X.env.locals
  inj : ∀ x y c, X.env.cells.lookup x = some c → X.env.cells.lookup y = some c → x = y
  has : ∀ x, (X.env.kindOf x = some .cell ∨ X.env.kindOf x = some .free) → ∃ c, X.env.cells.lookup x = some c
  cab : ∀ x c, X.fn x = true → X.env.cells.lookup x = some c → X.s₀.heap.objs.size ≤ c
  hd : X.calm = true → X.A.handled = none
  frames : X.A.frames = some X.stack
  stk : X.stack = X.outer ∨ (X.stack = X.env :: X.outer ∧ X.env.frame = some X.env.locals)
  exf : ∀ b ∈ X.ex, b ≠ X.env.locals ∧ ∀ x c, X.env.cells.lookup x = some c → c ≠ b
  bs : ∀ b o, X.base.get? b = some o → X.s₀.heap.get? b = some o ∧ X.H₀ b = none
  bsz : X.base.objs.size ≤ X.s₀.heap.objs.size
  noex : ∀ b o, X.base.get? b = some o → b ∉ X.ex
  exfs : ∀ b ∈ X.ex, b ∉ X.fs
  funs : X.s₀.heap.FunFrames X.base X.outer
  frf : ∀ b ∈ X.fs, X.H₀ b = none

structure Inv (X : Cx) (pins : List (Addr × Obj)) (σ : List (Option V)) (H : Hp) (s : Shared) : Prop where
  ok : X.Ok
  os : s.os = X.s₀.os
  bare : AllBare s.gens
  base : Un X.fs X.ex X.H₀ H X.s₀.heap s.heap
  loc : ∃ m, s.heap.Ns X.env.locals m ∧ ∀ (i : Nat) (x : Str) (v : V), X.N[i]? = some x → σ[i]? = some (some v) → Vis X.env.scope x → ∃ u, RelV v u ∧ Look X.env s.heap m x u
  cell : ∀ x c, X.env.cells.lookup x = some c → ∃ v, s.heap.IsCell c v
  free : H X.env.locals = none
  freeC : ∀ x c, X.env.cells.lookup x = some c → H c = none
  pin : ∀ p ∈ X.pn ++ pins, s.heap.get? p.1 = some p.2 ∧ H p.1 = none ∧ p.1 ≠ X.env.locals ∧ p.1 ∉ X.fs ∧ ∀ v, p.2.data ≠ .cell v
  hok : HOk X.prog X.w H s.heap
  len : σ.length = X.N.length

section
variable {X : Cx} {pins : List (Addr × Obj)} {σ : List (Option V)} {H H' : Hp} {s : Shared} {h' : Heap}

theorem Cx.Ok.nofr (ok : X.Ok) {b : Addr} {o : Obj} (e : X.base.get? b = some o) : b ∉ X.fs := fun hb => by
  have := (ok.funs.mem hb).1
  rw [e] at this; cases this
theorem Inv.bs (I : Inv X pins σ H s) : ∀ b o, X.base.get? b = some o → s.heap.get? b = some o ∧ H b = none := fun b o e =>
  ⟨I.base.keep b o (I.ok.bs b o e).1 (I.ok.bs b o e).2 (I.ok.nofr e) (I.ok.noex b o e), I.base.free b o (I.ok.bs b o e).1 (I.ok.bs b o e).2 (I.ok.noex b o e)⟩
theorem Inv.bk (I : Inv X pins σ H s) : ∀ b o, X.base.get? b = some o → s.heap.get? b = some o := fun b o e => (I.bs b o e).1
theorem Inv.mod (I : Inv X pins σ H s) : Mod X.K X.mg X.base := I.ok.mod
theorem Inv.kIn (I : Inv X pins σ H s) : X.K.In s.heap := I.ok.mod.kin.keeps I.bk
theorem Inv.fr (I : Inv X pins σ H s) : ∃ m, Fr X.base X.env.locals s.heap m :=
  let ⟨m, hn, _⟩ := I.loc
  ⟨m, hn, I.bk, Nat.le_trans I.ok.bsz I.ok.above⟩
theorem Inv.lt (I : Inv X pins σ H s) : X.env.locals < s.heap.objs.size := let ⟨_, hn, _⟩ := I.loc; hn.lt
theorem Inv.sz (I : Inv X pins σ H s) : X.s₀.heap.objs.size ≤ s.heap.objs.size := Nat.le_trans I.ok.above (Nat.le_of_lt I.lt)
theorem Inv.nofs (I : Inv X pins σ H s) {a : Addr} (h : s.heap.objs.size ≤ a) : a ∉ X.fs := fun hb => by
  obtain ⟨_, o, ho, _⟩ := I.ok.funs.mem hb
  exact absurd (Nat.lt_of_lt_of_le (Heap.lt_size ho) (Nat.le_trans I.sz h)) (Nat.lt_irrefl _)
theorem Inv.cne (I : Inv X pins σ H s) : ∀ x c, X.env.cells.lookup x = some c → c ≠ X.env.locals := fun x c e z => by
  obtain ⟨v, o, ho, hd⟩ := I.cell x c e
  obtain ⟨m, ⟨o', es, ep, ho', hd', _⟩, _⟩ := I.loc
  rw [z, ho'] at ho; cases ho; rw [hd'] at hd; cases hd
theorem Inv.funs (I : Inv X pins σ H s) : s.heap.FunFrames X.base X.outer := by
  have all : ∀ (l : List Env), (∀ b ∈ frs l, b ∈ X.fs) → X.s₀.heap.FunFrames X.base l → s.heap.FunFrames X.base l := by
    intro l
    induction l with
    | nil => intro _ _; trivial
    | cons env r ih =>
      intro hs hl
      obtain ⟨hk, ⟨L, o, hf, hn, ho, hd⟩, hr⟩ := hl
      have hL : L ∈ X.fs := hs L (by unfold frs; rw [List.filterMap_cons, hf]; exact List.mem_cons_self)
      obtain ⟨sl, e⟩ := I.base.slot L o ho (I.ok.frf L hL) hL fun z => I.ok.exfs L z hL
      exact ⟨hk, ⟨L, _, hf, hn, e, hd⟩, ih (fun b hb => hs b (by unfold frs; rw [List.filterMap_cons, hf]; exact List.mem_cons_of_mem _ hb)) hr⟩
  exact all X.outer (fun _ hb => hb) I.ok.funs

theorem Inv.stack (I : Inv X pins σ H s) : s.heap.FunFrames X.base X.stack := by
  rcases I.ok.stk with e | ⟨e, hf⟩
  · rw [e]; exact I.funs
  · rw [e]
    obtain ⟨m, hn, _⟩ := I.loc
    refine .cons (by rw [I.ok.kind]; decide) hf hn ?_ I.funs
    exact Heap.get?_none_of_le (Nat.le_trans I.ok.bsz I.ok.above)
theorem Inv.stkSub (I : Inv X pins σ H s) : ∀ b ∈ frs X.stack, b ∈ X.env.locals :: X.fs := fun b hb => by
  rcases I.ok.stk with e | ⟨e, hf⟩
  · rw [e] at hb; exact List.mem_cons_of_mem _ hb
  · rw [e] at hb
    unfold frs at hb
    rw [List.filterMap_cons, hf] at hb
    exact hb
theorem Inv.stkFree (I : Inv X pins σ H s) : ∀ b ∈ frs X.stack, H b = none := fun b hb => by
  rcases List.mem_cons.mp (I.stkSub b hb) with e | hb
  · rw [e]; exact I.free
  · obtain ⟨_, o, ho, _⟩ := I.ok.funs.mem hb
    exact I.base.free b o ho (I.ok.frf b hb) fun z => I.ok.exfs b z hb

theorem Inv.step {g' : Array GenState} {t' : Nat} {d' : Drawn} {ch : List Addr} (I : Inv X pins σ H s)
    (hch : ∀ b ∈ ch, (b ∈ X.ex ∨ X.s₀.heap.objs.size ≤ b) ∧ b ≠ X.env.locals ∧ (∀ x c, X.env.cells.lookup x = some c → c ≠ b) ∧ ∀ p ∈ X.pn ++ pins, p.1 ≠ b)
    (keep : ∀ b o, b ≠ X.env.locals → b ∉ X.fs → b ∉ ch → s.heap.get? b = some o → H b = none → h'.get? b = some o)
    (slot : ∀ b o, b ≠ X.env.locals → b ∈ X.fs → b ∉ ch → s.heap.get? b = some o → H b = none → ∃ sl, h'.get? b = some { o with slots := sl }) (free : ∀ b o, b ∉ ch → s.heap.get? b = some o → H b = none → H' b = none)
    (there : ∀ b o, b ∉ ch → s.heap.get? b = some o → ∃ o', h'.get? b = some o')
    (tups : ∀ b xs, H b = some (.tup xs) → H' b = some (.tup xs)) (frzs : ∀ b o u, H b = some (.frz o u) → H' b = some (.frz o u)) (tbls : ∀ b ps, H b = some (.tbl ps) → ∃ more, H' b = some (.tbl (ps ++ more)))
    (ns : ∀ m, s.heap.Ns X.env.locals m → h'.Ns X.env.locals m) (hok : HOk X.prog X.w H' h') (hg : AllBare g') :
    Inv X pins σ H' { s with heap := h', gens := g', drawn := d', toks := t' } := by
  have neL : ∀ b o, X.s₀.heap.get? b = some o → b ≠ X.env.locals := fun b o e => Nat.ne_of_lt (Nat.lt_of_lt_of_le (Heap.lt_size e) I.ok.above)
  have neC : ∀ b o, X.s₀.heap.get? b = some o → b ∉ X.ex → b ∉ ch := fun b o e hx hb => by
    rcases (hch b hb).1 with z | z
    · exact hx z
    · exact absurd (Nat.lt_of_lt_of_le (Heap.lt_size e) z) (Nat.lt_irrefl _)
  have cellK : ∀ x c, X.env.cells.lookup x = some c → ∀ v, s.heap.IsCell c v → h'.IsCell c v := fun x c e v ⟨o, ho, hd⟩ => by
    have nch : c ∉ ch := fun z => (hch c z).2.2.1 x c e rfl
    by_cases hc : c ∈ X.fs
    · obtain ⟨sl, q⟩ := slot c o (I.cne x c e) hc nch ho (I.freeC x c e)
      exact ⟨_, q, hd⟩
    · exact ⟨o, keep c o (I.cne x c e) hc nch ho (I.freeC x c e), hd⟩
  refine ⟨I.ok, I.os, hg, ⟨fun b o e n hb hx => ?_, fun b o e n hb hx => ?_, fun b o e n hx => ?_, fun b o e hx => ?_, fun b xs e => tups b xs (I.base.tups b xs e), fun b o xs e => frzs b o xs (I.base.frzs b o xs e), fun b ps e => ?_⟩, ?_, fun x c e => ?_, ?_, fun x c e => ?_, fun p hp => ?_, hok, I.len⟩
  · exact keep b o (neL b o e) hb (neC b o e hx) (I.base.keep b o e n hb hx) (I.base.free b o e n hx)
  · obtain ⟨sl, e1⟩ := I.base.slot b o e n hb hx
    obtain ⟨sl', e2⟩ := slot b _ (neL b o e) hb (neC b o e hx) e1 (I.base.free b o e n hx)
    exact ⟨sl', e2⟩
  · obtain ⟨o', e1⟩ := I.base.there b o e hx
    exact free b o' (neC b o e hx) e1 (I.base.free b o e n hx)
  · obtain ⟨o', e1⟩ := I.base.there b o e hx
    exact there b o' (neC b o e hx) e1
  · obtain ⟨m1, e1⟩ := I.base.tbls b ps e
    obtain ⟨m2, e2⟩ := tbls b _ e1
    exact ⟨m1 ++ m2, by rw [e2, Array.append_assoc]⟩
  · obtain ⟨m, hn, hl⟩ := I.loc
    refine ⟨m, ns m hn, fun i x v e1 e2 e3 => ?_⟩
    obtain ⟨u, r, l⟩ := hl i x v e1 e2 e3
    refine ⟨u, r, ?_⟩
    rcases l with l | ⟨k, c, e, z⟩
    · exact .inl l
    · exact .inr ⟨k, c, e, cellK x c e _ z⟩
  · obtain ⟨v, z⟩ := I.cell x c e
    exact ⟨v, cellK x c e v z⟩
  · obtain ⟨m, ⟨o, _, _, ho, _⟩, _⟩ := I.loc
    exact free _ o (fun z => (hch _ z).2.1 rfl) ho I.free
  · obtain ⟨v, o, ho, hd⟩ := I.cell x c e
    exact free c o (fun z => (hch c z).2.2.1 x c e rfl) ho (I.freeC x c e)
  · obtain ⟨e, n, ne, nf, d⟩ := I.pin p hp
    have nch : p.1 ∉ ch := fun z => (hch p.1 z).2.2.2 p hp rfl
    exact ⟨keep p.1 p.2 ne nf nch e n, free p.1 p.2 nch e n, ne, nf, d⟩
theorem Inv.un {t' : Nat} (I : Inv X pins σ H s) (u : Un X.fs [] H H' s.heap h') (hok : HOk X.prog X.w H' h') : Inv X pins σ H' { s with heap := h', toks := t' } := by
  obtain ⟨m, ⟨o, es, ep, ho, r⟩, _⟩ := id I.loc
  obtain ⟨sl, hL⟩ := u.any ho I.free (by simp)
  exact I.step (g' := s.gens) (d' := s.drawn) (ch := []) (fun _ z => nomatch z) (fun b o _ hb _ e n => u.keep b o e n hb (by simp)) (fun b o _ hb _ e n => u.slot b o e n hb (by simp)) (fun b o _ e n => u.free b o e n (by simp)) (fun b o _ e => u.there b o e (by simp)) u.tups u.frzs u.tbls (fun m' hm => by
    obtain ⟨o', es', ep', ho', r'⟩ := hm
    rw [ho] at ho'; cases ho'
    exact ⟨_, es', ep', hL, r'⟩) hok I.bare
theorem Inv.call {g' : Array GenState} {t' : Nat} {d' : Drawn} {ch : List Addr} (I : Inv X pins σ H s) (u : Un (frs X.stack) ch H H' s.heap h') (hok : HOk X.prog X.w H' h') (hg : AllBare g')
    (hch : ∀ b ∈ ch, (b ∈ X.ex ∨ X.s₀.heap.objs.size ≤ b) ∧ b ≠ X.env.locals ∧ (∀ x c, X.env.cells.lookup x = some c → c ≠ b) ∧ ∀ p ∈ X.pn ++ pins, p.1 ≠ b) :
    Inv X pins σ H' { s with heap := h', gens := g', drawn := d', toks := t' } := by
  obtain ⟨m, ⟨o, es, ep, ho, r⟩, _⟩ := id I.loc
  obtain ⟨sl, hL⟩ := u.any ho I.free fun z => (hch _ z).2.1 rfl
  exact I.step (ch := ch) hch (fun b o hL hb hc e n => u.keep b o e n (fun z => (List.mem_cons.mp (I.stkSub b z)).elim hL hb) hc) (fun b o _ _ hc e n => u.any e n hc) (fun b o hc e n => u.free b o e n hc) (fun b o hc e => u.there b o e hc) u.tups u.frzs u.tbls (fun m' hm => by
    obtain ⟨o', es', ep', ho', r'⟩ := hm
    rw [ho] at ho'; cases ho'
    exact ⟨_, es', ep', hL, r'⟩) hok hg
theorem Inv.turned {t' : Nat} {it : Addr} (I : Inv X pins σ H s) (k : ∀ b o, b ≠ it → s.heap.get? b = some o → h'.get? b = some o) (hn : H it = none) (hL : it ≠ X.env.locals)
    (h1 : it ∈ X.ex ∨ X.s₀.heap.objs.size ≤ it) (h2 : ∀ x c, X.env.cells.lookup x = some c → c ≠ it) (h3 : ∀ p ∈ X.pn ++ pins, p.1 ≠ it) : Inv X pins σ H { s with heap := h', toks := t' } := by
  have nit : ∀ b u, H b = some u → b ≠ it := fun b u e z => by rw [z, hn] at e; cases e
  refine I.step (g' := s.gens) (d' := s.drawn) (ch := [it]) (fun b hb => ?_) (fun b o _ _ hc e _ => k b o (fun z => hc (by simp [z])) e) (fun b o _ _ hc e _ => ⟨o.slots, k b o (fun z => hc (by simp [z])) e⟩) (fun _ _ _ _ n => n)
    (fun b o hc e => ⟨o, k b o (fun z => hc (by simp [z])) e⟩) (fun _ _ e => e) (fun _ _ _ e => e) (fun b ps e => ⟨#[], by rw [e]; simp⟩) (fun m hm => ?_) (fun b u e => ?_) I.bare
  · have e : b = it := by simpa using hb
    subst e
    exact ⟨h1, hL, h2, h3⟩
  · obtain ⟨o, es, ep, ho, r⟩ := hm
    exact ⟨o, es, ep, k _ o (Ne.symm hL) ho, r⟩
  · refine (I.hok b u e).stay (fun c v hc q => k c v ?_ q) (fun _ q => q) fun _ _ q => q
    rcases hc with z | z
    · rw [z]; exact nit b u e
    · exact nit c _ z
theorem Inv.tok (I : Inv X pins σ H s) (t : Nat) : Inv X pins σ H { s with toks := t } := I.un (h' := s.heap) (t' := t) Un.refl I.hok
theorem Inv.kept {t' : Nat} (I : Inv X pins σ H s) (k : ∀ b u, s.heap.get? b = some u → h'.get? b = some u) : Inv X pins σ H { s with heap := h', toks := t' } := I.un (Un.kept k) (I.hok.kept k)
theorem Inv.laid {a : Addr} {o : HO} {t' : Nat} (I : Inv X pins σ H s) (k : ∀ b u, s.heap.get? b = some u → h'.get? b = some u) (hp : s.heap.objs.size ≤ a) (new : ObjOk X.prog X.w (upd H a o) h' a o) :
    Inv X pins σ (upd H a o) { s with heap := h', toks := t' } := I.un (Un.laid k hp (I.hok.fresh hp)) (I.hok.laid k hp new)
theorem Inv.write {x e : Addr} {o : HO} {t' : Nat} (I : Inv X pins σ H s) (mu : Mut (H x)) (he : e = x ∨ H e = some (.own x)) (k : ∀ b u, b ≠ e → s.heap.get? b = some u → h'.get? b = some u) (heo : ∃ u, h'.get? e = some u)
    (new : ObjOk X.prog X.w (upd H x o) h' x o) : Inv X pins σ (upd H x o) { s with heap := h', toks := t' } := I.un (Un.write mu he k heo) (I.hok.write mu he k heo new)
theorem Inv.weak {σ' : List (Option V)} (I : Inv X pins σ H s) (hl : σ'.length = σ.length) (w : ∀ (i : Nat) v, σ'[i]? = some (some v) → σ[i]? = some (some v)) : Inv X pins σ' H s :=
  ⟨I.ok, I.os, I.bare, I.base, let ⟨m, hn, hl'⟩ := I.loc; ⟨m, hn, fun i x v e1 e2 e3 => hl' i x v e1 (w i v e2) e3⟩, I.cell, I.free, I.freeC, I.pin, I.hok, hl.trans I.len⟩
theorem Inv.pins_of {pins' : List (Addr × Obj)} (I : Inv X pins σ H s) (h : ∀ p ∈ pins', s.heap.get? p.1 = some p.2 ∧ H p.1 = none ∧ p.1 ≠ X.env.locals ∧ p.1 ∉ X.fs ∧ ∀ v, p.2.data ≠ .cell v) : Inv X pins' σ H s :=
  ⟨I.ok, I.os, I.bare, I.base, I.loc, I.cell, I.free, I.freeC, fun p hp => (List.mem_append.mp hp).elim (fun z => I.pin p (List.mem_append_left _ z)) (h p), I.hok, I.len⟩

theorem nodup_ix {N : List Str} (hN : N.Nodup) {i j : Nat} {x : Str} (a : N[i]? = some x) (b : N[j]? = some x) : i = j := by
  obtain ⟨h1, e1⟩ := List.getElem?_eq_some_iff.mp a
  obtain ⟨h2, e2⟩ := List.getElem?_eq_some_iff.mp b
  exact (List.getElem_inj hN).mp (e1.trans e2.symm)

theorem store_ok2 {M : Model} {A : Around} {E : Value → Shared → Prop} {i : Nat} {x : Str} {v : V} {u : Value} {Q : Unit → Shared → Prop} (I : Inv X pins σ H s) (hN : X.N.Nodup) (hi : X.N[i]? = some x) (hx : Loc X.env.scope x) (r : RelV v u)
    (h : ∀ s', Inv X pins (σ.set i (some v)) H s' → (∃ a, Heap.SameBut a s.heap s'.heap ∧ (a = X.env.locals ∨ X.env.cells.lookup x = some a)) → Q () s') (hf : X.fn x = true ∨ X.env.scope.names.lookup x = some .local := by first | exact .inl rfl | exact .inr rfl | assumption) : wpAny M A (storeName X.env x u) Q E s := by
  obtain ⟨m, hn, hl⟩ := id I.loc
  have hcls : (X.env.scope.kind == .class || (X.env.scope.kind == .module && X.env.locals != X.env.globals)) = false := by rw [I.ok.kind]; rfl
  have hiσ : i < σ.length := by rw [I.len]; exact (List.getElem?_eq_some_iff.mp hi).1
  have cne := I.cne
  have tracked : ∀ {a : Addr} {h' : Heap}, (∃ o, s.heap.get? a = some o ∧ H a = none) → Heap.SameBut a s.heap h' → HOk X.prog X.w H h' := fun {a h'} ha hs b ob e => by
    obtain ⟨_, _, hfree⟩ := ha
    refine (I.hok b ob e).stay (fun c w' hc q => (hs.2 c ?_).trans q) (fun _ q => q) fun _ _ q => q
    rintro rfl
    rcases hc with rfl | hc
    · rw [hfree] at e; cases e
    · rw [hfree] at hc; cases hc
  rcases hx with hk | hk
  · refine wpAny_storeName_local hk hn (fun h' hn' hs => ?_) hcls
    obtain ⟨oL, _, _, hoL, _⟩ := id hn
    refine h _ ⟨I.ok, I.os, I.bare, ⟨fun b o e n hb hx => ?_, fun b o e n hb hx => ?_, I.base.free, fun b o e hx => ?_, I.base.tups, I.base.frzs, I.base.tbls⟩, ⟨_, hn', fun j y v' e1 e2 e3 => ?_⟩, fun y c e => ?_, I.free, I.freeC, fun p hp => ?_, tracked ⟨oL, hoL, I.free⟩ hs, by simpa using I.len⟩ ⟨_, hs, .inl rfl⟩
    · exact (hs.2 b (Nat.ne_of_lt (Nat.lt_of_lt_of_le (Heap.lt_size e) I.ok.above))).trans (I.base.keep b o e n hb hx)
    · obtain ⟨sl, e1⟩ := I.base.slot b o e n hb hx
      exact ⟨sl, (hs.2 b (Nat.ne_of_lt (Nat.lt_of_lt_of_le (Heap.lt_size e) I.ok.above))).trans e1⟩
    · obtain ⟨o', e1⟩ := I.base.there b o e hx
      exact ⟨o', (hs.2 b (Nat.ne_of_lt (Nat.lt_of_lt_of_le (Heap.lt_size e) I.ok.above))).trans e1⟩
    · by_cases hj : j = i
      · subst hj
        rw [hi] at e1; cases e1
        rw [List.getElem?_set_self hiσ] at e2
        cases e2
        exact ⟨u, r, .inl ⟨hk, by simp⟩⟩
      · rw [List.getElem?_set_ne (Ne.symm hj)] at e2
        obtain ⟨u', r', q⟩ := hl j y v' e1 e2 e3
        refine ⟨u', r', ?_⟩
        rcases q with ⟨k, e⟩ | ⟨k, c, e, z⟩
        · refine .inl ⟨k, ?_⟩
          have : y ≠ x := fun e => hj (nodup_ix hN e1 (e ▸ hi))
          simp [this, e]
        · exact .inr ⟨k, c, e, z.sameBut hs (cne y c e)⟩
    · obtain ⟨w', z⟩ := I.cell y c e
      exact ⟨w', z.sameBut hs (cne y c e)⟩
    · obtain ⟨e, n, ne, nf, d⟩ := I.pin p hp
      exact ⟨(hs.2 p.1 ne).trans e, n, ne, nf, d⟩
  · have hfn : X.fn x = true := by
      rcases hf with z | z
      · exact z
      · rw [z] at hk; cases hk
    obtain ⟨c, hc⟩ := I.ok.has x (.inl hk)
    obtain ⟨w', z⟩ := I.cell x c hc
    refine wpAny_storeName_cell I.ok.kind hk hc z (fun h' hc' hs => ?_)
    obtain ⟨oc, hoc, hocd⟩ := id z
    refine h { s with heap := h' } ⟨I.ok, I.os, I.bare, ⟨fun b o e n hb hx => ?_, fun b o e n hb hx => ?_, I.base.free, fun b o e hx => ?_, I.base.tups, I.base.frzs, I.base.tbls⟩, ⟨m, hn.sameBut hs (Ne.symm (cne x c hc)), fun j y v' e1 e2 e3 => ?_⟩, fun y c' e => ?_, I.free, I.freeC, fun p hp => ?_, tracked ⟨oc, hoc, I.freeC x c hc⟩ hs, by simpa using I.len⟩ ⟨c, hs, .inr hc⟩
    · exact (hs.2 b (Nat.ne_of_lt (Nat.lt_of_lt_of_le (Heap.lt_size e) (I.ok.cab x c hfn hc)))).trans (I.base.keep b o e n hb hx)
    · obtain ⟨sl, e1⟩ := I.base.slot b o e n hb hx
      exact ⟨sl, (hs.2 b (Nat.ne_of_lt (Nat.lt_of_lt_of_le (Heap.lt_size e) (I.ok.cab x c hfn hc)))).trans e1⟩
    · obtain ⟨o', e1⟩ := I.base.there b o e hx
      exact ⟨o', (hs.2 b (Nat.ne_of_lt (Nat.lt_of_lt_of_le (Heap.lt_size e) (I.ok.cab x c hfn hc)))).trans e1⟩
    · by_cases hj : j = i
      · subst hj
        rw [hi] at e1; cases e1
        rw [List.getElem?_set_self hiσ] at e2
        cases e2
        exact ⟨u, r, .inr ⟨.inl hk, c, hc, hc'⟩⟩
      · rw [List.getElem?_set_ne (Ne.symm hj)] at e2
        obtain ⟨u', r', q⟩ := hl j y v' e1 e2 e3
        refine ⟨u', r', ?_⟩
        rcases q with q | ⟨k, c', e, z'⟩
        · exact .inl q
        · refine .inr ⟨k, c', e, z'.sameBut hs ?_⟩
          rintro rfl
          exact hj (nodup_ix hN e1 (I.ok.inj _ _ _ e hc ▸ hi))
    · by_cases hcc : c' = c
      · subst hcc; exact ⟨_, hc'⟩
      · obtain ⟨w2, z2⟩ := I.cell y c' e
        exact ⟨w2, z2.sameBut hs hcc⟩
    · obtain ⟨e, n, ne, nf, d⟩ := I.pin p hp
      refine ⟨(hs.2 p.1 ?_).trans e, n, ne, nf, d⟩
      intro q
      rw [q, hoc] at e
      have q' : oc = p.2 := Option.some.inj e
      exact d w' (by rw [← q']; exact hocd)
theorem store_ok {M : Model} {A : Around} {E : Value → Shared → Prop} {i : Nat} {x : Str} {v : V} {u : Value} {Q : Unit → Shared → Prop} (I : Inv X pins σ H s) (hN : X.N.Nodup) (hi : X.N[i]? = some x) (hx : Loc X.env.scope x) (r : RelV v u)
    (h : ∀ s', Inv X pins (σ.set i (some v)) H s' → Q () s') (hf : X.fn x = true ∨ X.env.scope.names.lookup x = some .local := by first | exact .inl rfl | exact .inr rfl | assumption) : wpAny M A (storeName X.env x u) Q E s :=
  store_ok2 I hN hi hx r (fun s' I' _ => h s' I') hf
theorem Inv.call' {s' : Shared} {ch : List Addr} (I : Inv X pins σ H s) (ho : s'.os = s.os) (u : Un (frs X.stack) ch H H' s.heap s'.heap) (hok : HOk X.prog X.w H' s'.heap) (hg : AllBare s'.gens)
    (hch : ∀ b ∈ ch, (b ∈ X.ex ∨ X.s₀.heap.objs.size ≤ b) ∧ b ≠ X.env.locals ∧ (∀ x c, X.env.cells.lookup x = some c → c ≠ b) ∧ ∀ p ∈ X.pn ++ pins, p.1 ≠ b) : Inv X pins σ H' s' := by
  obtain ⟨h', g', d', t', o'⟩ := s'
  have e : o' = s.os := ho
  subst e
  exact I.call (g' := g') (t' := t') (d' := d') u hok hg hch
end

abbrev XK := Value → Option Addr → Hp → Prop
abbrev St := List (Option V)
abbrev VK := V → Hp → Prop
abbrev TE := St → Hp → VK → Prop
abbrev TT := St → Hp → (Bool → Hp → Prop) → Prop
abbrev TA := St → Hp → (List V → Hp → Prop) → Prop
structure Ends where
  nx : St → Hp → Prop
  rt : VK
  bk : St → Hp → Prop := fun _ _ => False
  ct : St → Hp → Prop := fun _ _ => False
abbrev TS := Ends → St → Hp → Prop

noncomputable def EP (X : Cx) (pins : List (Addr × Obj)) (σ : St) (Q : VK) (u : Value) (s' : Shared) : Prop := ∃ v H', Inv X pins σ H' s' ∧ RelV v u ∧ Q v H'
noncomputable def TP (X : Cx) (pins : List (Addr × Obj)) (σ : St) (Q : Bool → Hp → Prop) (b : Bool) (s' : Shared) : Prop := ∃ H', Inv X pins σ H' s' ∧ Q b H'
noncomputable def AP (X : Cx) (pins : List (Addr × Obj)) (σ : St) (Q : List V → Hp → Prop) (us : List Value) (s' : Shared) : Prop := ∃ vs H', Inv X pins σ H' s' ∧ Vals vs us ∧ Q vs H'
noncomputable def SP (X : Cx) (pins : List (Addr × Obj)) (D : Ends) (f : Flow) (s' : Shared) : Prop :=
  match f with
  | .next => ∃ σ' H', Inv X pins σ' H' s' ∧ D.nx σ' H'
  | .brk => ∃ σ' H', Inv X pins σ' H' s' ∧ D.bk σ' H'
  | .cont => ∃ σ' H', Inv X pins σ' H' s' ∧ D.ct σ' H'
  | .ret u => ∃ v σ' H', Inv X pins σ' H' s' ∧ RelV v u ∧ D.rt v H'

noncomputable def PE (X : Cx) (e : Expr) (t : TE) : Prop :=
  ∀ (pins : List (Addr × Obj)) (s : Shared) (σ : St) (H : Hp) (Q : VK), Inv X pins σ H s → t σ H Q → wpAny (model X.prog X.w) X.A (eval e X.env) (EP X pins σ Q) X.xe s
noncomputable def PT (X : Cx) (e : Expr) (t : TT) : Prop :=
  ∀ (pins : List (Addr × Obj)) (s : Shared) (σ : St) (H : Hp) (Q : Bool → Hp → Prop), Inv X pins σ H s → t σ H Q → wpAny (model X.prog X.w) X.A (isTrue e X.env (eval e X.env)) (TP X pins σ Q) X.xe s
noncomputable def PW (X : Cx) (e : Expr) (t : TT) : Prop :=
  ∀ (whole : Sem Value) (pins : List (Addr × Obj)) (s : Shared) (σ : St) (H : Hp) (Q : Bool → Hp → Prop), Inv X pins σ H s → t σ H Q → wpAny (model X.prog X.w) X.A (isTrue e X.env whole) (TP X pins σ Q) X.xe s
theorem PW.pt {X : Cx} {e : Expr} {t : TT} (h : PW X e t) : PT X e t := h _
noncomputable def PA (X : Cx) (es : List Expr) (t : TA) : Prop :=
  ∀ (pos : Pos) (pins : List (Addr × Obj)) (s : Shared) (σ : St) (H : Hp) (Q : List V → Hp → Prop), Inv X pins σ H s → t σ H Q → wpAny (model X.prog X.w) X.A (spliced (backTo pos (starEach es X.env))) (AP X pins σ Q) X.xe s
noncomputable def PS (X : Cx) (st : Stmt) (t : TS) : Prop :=
  ∀ (pins : List (Addr × Obj)) (s : Shared) (σ : St) (H : Hp) (D : Ends), Inv X pins σ H s → t D σ H → wpAny (model X.prog X.w) X.A (exec st X.env) (SP X pins D) X.xe s
noncomputable def PSs (X : Cx) (st : List Stmt) (t : TS) : Prop :=
  ∀ (pins : List (Addr × Obj)) (s : Shared) (σ : St) (H : Hp) (D : Ends), Inv X pins σ H s → t D σ H → wpAny (model X.prog X.w) X.A (execs st X.env) (SP X pins D) X.xe s
theorem thn {α : Type} {t : Sem α} {Q Q' : α → Shared → Prop} {M : Model} {A : Around} {E : Value → Shared → Prop} {s : Shared} (h : wpAny M A t Q E s) (hQ : ∀ a s, Q a s → Q' a s) : wpAny M A t Q' E s := wpAny_mono h hQ fun _ _ x => x
end L2

namespace L2
open PySem PySem.Spec PyProof.Rows
section
variable {X : Cx}


noncomputable def tVar (i : Nat) : TE := fun σ H Q => ∃ v, σ[i]? = some (some v) ∧ Q v H
noncomputable def tC (v : V) : TE := fun _ H Q => Q v H
theorem pe_var {i : Nat} {x : Str} {pos : Pos} (hN : X.N[i]? = some x) (hv : Vis X.env.scope x) (hd : (x == ("__debug__" : Str)) = false := by decide) (hcd : (x == ("__classdict__" : Str)) = false := by decide) : PE X (.Name x pos) (tVar i) := by
  intro pins s σ H Q I h
  obtain ⟨v, e, h⟩ := h
  obtain ⟨m, hn, hl⟩ := I.loc
  obtain ⟨u, r, l⟩ := hl i x v hN e hv
  have fin : EP X pins σ Q u s := ⟨v, H, I, r, h⟩
  rcases l with ⟨hk, hm⟩ | ⟨hk, c, hc, hcell⟩
  · exact wpAny_Name (wpAny_loadName_local I.ok.kind hk hn hm fin) hd
  · rcases hk with hk | hk
    · exact wpAny_Name (wpAny_loadName_cell I.ok.kind hk hc hcell fin) hd
    · exact wpAny_Name (wpAny_loadName_free I.ok.kind hk hc hcell fin hcd) hd
theorem pe_int {i j pos} : PE X (.Constant (.int i) j pos) (tC (.int i)) := fun _ _ _ H _ I h => wpAny_Constant_int ⟨.int i, H, I.tok _, ⟨_, rfl⟩, h⟩
theorem pe_bl {b j pos} : PE X (.Constant (.bool b) j pos) (tC (.bl b)) := fun _ _ _ H _ I h => Constant_bool ⟨.bl b, H, I, rfl, h⟩
theorem pe_non {j pos} : PE X (.Constant .none j pos) (tC .non) := fun _ _ _ H _ I h => Constant_none ⟨.non, H, I, rfl, h⟩
theorem pe_str {x j pos} : PE X (.Constant (.str x) j pos) (tC (.str x)) := fun _ _ _ H _ I h => Calls.Constant_str ⟨.str x, H, I.tok _, ⟨_, rfl⟩, h⟩

noncomputable def Gl (X : Cx) (x : Str) : Prop := X.env.kindOf x = some .globalImplicit
theorem ld_glob {E : Value → Shared → Prop} {pins : List (Addr × Obj)} {s : Shared} {σ : St} {H : Hp} {x : Str} {u : Value} {pos : Pos} {Q : Value → Shared → Prop} (I : Inv X pins σ H s) (hg : Gl X x) (hm : X.mg x = some u) (h : Q u s)
    (hd : (x == ("__debug__" : Str)) = false := by decide) : wpAny (model X.prog X.w) X.A (eval (.Name x pos) X.env) Q E s :=
  Calls.Name_function_global I.ok.kind hg (Calls.loadGlobal_global (by rw [I.ok.glob]; exact I.mod.glob.keeps I.bk) hm h) hd
theorem ld_blt {E : Value → Shared → Prop} {pins : List (Addr × Obj)} {s : Shared} {σ : St} {H : Hp} {x : Str} {u : Value} {pos : Pos} {Q : Value → Shared → Prop} (I : Inv X pins σ H s) (hg : Gl X x) (hm : X.mg x = none) (hv : bootBuiltins x = some u) (h : Q u s)
    (hn : x ≠ "__name__" := by decide) (hd : (x == ("__debug__" : Str)) = false := by decide) : wpAny (model X.prog X.w) X.A (eval (.Name x pos) X.env) Q E s := by
  obtain ⟨mb, h1, h2⟩ := I.mod.blt
  exact Calls.Name_function_global I.ok.kind hg (Calls.loadGlobal_builtin (by rw [I.ok.glob]; exact I.mod.glob.keeps I.bk) hm (by rw [I.ok.blt]; exact h1.keeps I.bk) ((h2 x hn).trans hv) h) hd
theorem pe_glob {x : Str} {v : V} {u : Value} {pos : Pos} (hg : Gl X x) (hm : X.mg x = some u) (r : RelV v u) (hd : (x == ("__debug__" : Str)) = false := by decide) : PE X (.Name x pos) (tC v) :=
  fun _ _ _ H _ I h => ld_glob I hg hm ⟨v, H, I, r, h⟩ hd
theorem pe_bltn {x : Str} {v : V} {u : Value} {pos : Pos} (hg : Gl X x) (hm : X.mg x = none) (hv : bootBuiltins x = some u) (r : RelV v u) (hn : x ≠ "__name__" := by decide) (hd : (x == ("__debug__" : Str)) = false := by decide) : PE X (.Name x pos) (tC v) :=
  fun _ _ _ H _ I h => ld_blt I hg hm hv ⟨v, H, I, r, h⟩ hn hd

variable {a b : Expr} {ta tb : TE} {pos : Pos}

noncomputable def PC (X : Cx) (op : CmpOp) (a b : Expr) (t : TE) : Prop :=
  ∀ (pins : List (Addr × Obj)) (s : Shared) (σ : St) (H : Hp) (Q : VK), Inv X pins σ H s → t σ H Q →
    wpAny (model X.prog X.w) X.A (eval a X.env) (fun v s₁ => wpAny (model X.prog X.w) X.A (eval b X.env) (fun u s₂ => wpAny (model X.prog X.w) X.A (compareOp op v u) (EP X pins σ Q) X.xe s₂) X.xe s₁) X.xe s
theorem nobehind (b : Expr) {op : CmpOp} (h : op ≠ .In) (h2 : op ≠ .NotIn) : behindInMarks op b = false := by
  have e1 : (op == CmpOp.In) = false := by cases op <;> first | rfl | exact absurd rfl h
  have e2 : (op == CmpOp.NotIn) = false := by cases op <;> first | rfl | exact absurd rfl h2
  cases b <;> simp [behindInMarks, e1, e2]
noncomputable def tB (t : TE) : TT := fun σ H Q => t σ H fun x H1 => ∃ c, x = .bl c ∧ Q c H1
theorem pt_cmp {op : CmpOp} {t : TE} (h : PC X op a b t) (h1 : behindInMarks op b = false := by first | exact nobehind _ (by decide) (by decide) | rfl) : PT X (.Compare a [op] [b] pos) (tB t) := by
  intro pins s σ H Q I hw
  refine wpAny_isTrue_Compare1 (thn (h pins s σ H _ I hw) fun v s1 h1 => thn h1 fun u s2 h2 => thn h2 fun c s3 ⟨x, H1, I1, r1, q1⟩ => ?_) h1
  obtain ⟨d, rfl, q⟩ := q1
  cases r1
  exact wpAny_truthy_bool ⟨H1, I1, q⟩
theorem pt_val {e : Expr} {t : TE} (h : PE X e t) (he : ∀ whole, isTrue e X.env whole = (do let v ← whole; standAt e.pos; holding [v] (truthy v)) := by intro _; rfl) : PT X e (tB t) := by
  intro pins s σ H Q I hw
  refine isTrue_plain (thn (h pins s σ H _ I hw) fun v s1 ⟨x, H1, I1, r1, q1⟩ => ?_) (he _)
  obtain ⟨d, rfl, q⟩ := q1
  cases r1
  exact wpAny_truthy_bool ⟨H1, I1, q⟩

variable {tA tB' : TT} {rest : List Expr}
noncomputable def tAnd (t u : TT) : TT := fun σ H Q => t σ H fun c H1 => if c = true then u σ H1 Q else Q false H1
noncomputable def tOr (t u : TT) : TT := fun σ H Q => t σ H fun c H1 => if c = true then Q true H1 else u σ H1 Q
noncomputable def tNot (t : TT) : TT := fun σ H Q => t σ H fun c H1 => Q (!c) H1
theorem pw_and1 (ha : PT X a tA) : PW X (.BoolOp .And [a] pos) tA := by
  intro wh pins s σ H Q I h
  refine isTrue_and (thn (ha pins s σ H Q I h) fun c s1 e => ?_)
  cases c with
  | true => exact isTrue_and_nil e
  | false => exact e
theorem pw_or1 (ha : PT X a tA) : PW X (.BoolOp .Or [a] pos) tA := by
  intro wh pins s σ H Q I h
  refine isTrue_or (thn (ha pins s σ H Q I h) fun c s1 e => ?_)
  cases c with
  | false => exact isTrue_or_nil e
  | true => exact e
theorem pw_and (ha : PT X a tA) (hb : PW X (.BoolOp .And (b :: rest) pos) tB') : PW X (.BoolOp .And (a :: b :: rest) pos) (tAnd tA tB') := by
  intro wh pins s σ H Q I h
  refine isTrue_and (thn (ha pins s σ H _ I h) fun c s1 ⟨H1, I1, q1⟩ => ?_)
  cases c with
  | true => exact hb wh pins s1 σ H1 Q I1 q1
  | false => exact ⟨H1, I1, q1⟩
theorem pw_or (ha : PT X a tA) (hb : PW X (.BoolOp .Or (b :: rest) pos) tB') : PW X (.BoolOp .Or (a :: b :: rest) pos) (tOr tA tB') := by
  intro wh pins s σ H Q I h
  refine isTrue_or (thn (ha pins s σ H _ I h) fun c s1 ⟨H1, I1, q1⟩ => ?_)
  cases c with
  | true => exact ⟨H1, I1, q1⟩
  | false => exact hb wh pins s1 σ H1 Q I1 q1
theorem pt_not (ha : PT X a tA) : PT X (.UnaryOp .Not a pos) (tNot tA) := by
  intro pins s σ H Q I h
  exact isTrue_not (ha pins s σ H (fun c H1 => Q (!c) H1) I h)
noncomputable def tAndV (ta tb : TE) : TE := fun σ H Q => ta σ H fun x H1 => ∃ c, x = .bl c ∧ if c = true then tb σ H1 Q else Q (.bl false) H1
noncomputable def tOrV (ta tb : TE) : TE := fun σ H Q => ta σ H fun x H1 => ∃ c, x = .bl c ∧ if c = true then Q (.bl true) H1 else tb σ H1 Q
noncomputable def tNotV (ta : TE) : TE := fun σ H Q => ta σ H fun x H1 => ∃ c, x = .bl c ∧ Q (.bl (!c)) H1
theorem pe_one {op} {t : TE} (h : PE X a t) : PE X (.BoolOp op [a] pos) t := fun pins s σ H Q I hw => BoolOp_one (h pins s σ H Q I hw)
theorem pe_and (ha : PE X a ta) (hb : PE X (.BoolOp .And (b :: rest) pos) tb) : PE X (.BoolOp .And (a :: b :: rest) pos) (tAndV ta tb) := by
  intro pins s σ H Q I h
  refine BoolOp_and (thn (ha pins s σ H _ I h) fun v s1 ⟨x, H1, I1, r1, q1⟩ => ?_)
  obtain ⟨c, rfl, q1⟩ := q1
  cases r1
  refine wpAny_truthy_bool ?_
  cases c with
  | true => exact hb pins s1 σ H1 Q I1 q1
  | false => exact ⟨.bl false, H1, I1, rfl, q1⟩
theorem pe_not (ha : PE X a ta) : PE X (.UnaryOp .Not a pos) (tNotV ta) := by
  intro pins s σ H Q I h
  refine UnaryOp_ (thn (ha pins s σ H _ I h) fun v s1 ⟨x, H1, I1, r1, q1⟩ => ?_)
  obtain ⟨c, rfl, q1⟩ := q1
  cases r1
  exact not_of (wpAny_truthy_bool ⟨.bl (!c), H1, I1, rfl, q1⟩)
noncomputable def tIf (t : TT) (ta tb : TE) : TE := fun σ H Q => t σ H fun c H1 => if c = true then ta σ H1 Q else tb σ H1 Q
end
end L2

namespace L2
open PySem PySem.Spec PyProof.Rows

noncomputable def SqL (K : PySem.W.Frag) (H : Hp) (a : Addr) (xs : List V) : Prop :=
  Rd H a (.lst xs) ∨
    ∃ (o : Obj) (its : Array Value) (n : Nat), K.lookup a = some o ∧ o.cls = .type "list" ∧ o.dict = none ∧ o.data = .seq its n ∧ its.size ≤ sizeLine ∧ Vals xs its.toList
noncomputable def SqT (K : PySem.W.Frag) (H : Hp) (a : Addr) (xs : List V) : Prop :=
  Rd H a (.tup xs) ∨
    ∃ (o : Obj) (its : Array Value) (n : Nat), K.lookup a = some o ∧ o.cls = .type "tuple" ∧ o.data = .seq its n ∧ its.size ≤ sizeLine ∧ Vals xs its.toList
noncomputable def absV : Value → Option V
  | .none => some .non
  | .bool b => some (.bl b)
  | .int i _ => some (.int i)
  | .str x _ => some (.str x)
  | .bytes b _ => some (.byt b)
  | .float b _ => some (.flt b)
  | .ref a => some (.ref a)
  | .type n => some (.ty n)
  | _ => none
theorem RelV.abs {x : V} {u : Value} (r : RelV x u) : absV u = some x := by
  cases x with
  | non => cases r; rfl
  | bl _ => cases r; rfl
  | int _ => obtain ⟨t, rfl⟩ := r; rfl
  | str _ => obtain ⟨t, rfl⟩ := r; rfl
  | byt _ => obtain ⟨t, rfl⟩ := r; rfl
  | flt _ => obtain ⟨t, rfl⟩ := r; rfl
  | ref _ => cases r; rfl
  | ty _ => cases r; rfl
theorem RelV.inj {x y : V} {u : Value} (r : RelV x u) (q : RelV y u) : x = y := Option.some.inj (r.abs.symm.trans q.abs)
theorem Vals.inj : ∀ {xs ys : List V} {us : List Value}, Vals xs us → Vals ys us → xs = ys
  | _, _, _, .nil, .nil => rfl
  | _, _, _, .cons r t, .cons r' t' => by rw [r.inj r', Vals.inj t t']
section
variable {X : Cx} {pins : List (Addr × Obj)} {σ : St} {H : Hp} {s : Shared} {a : Addr} {xs ys : List V}
theorem SqL.of {K : PySem.W.Frag} (h : H a = some (.lst xs)) : SqL K H a xs := .inl (.inl h)
theorem SqT.of {K : PySem.W.Frag} (h : H a = some (.tup xs)) : SqT K H a xs := .inl (.inl h)
theorem Inv.list (I : Inv X pins σ H s) (h : SqL X.K H a xs) : ∃ its : List Value, Vals xs its ∧ PlainL s.heap a its.toArray ∧ xs.length ≤ sizeLine := by
  rcases h with h | ⟨o, its, n, hk, hc, hd, hs, hz, r⟩
  · obtain ⟨z, its, n, r, e⟩ := h.ok I.hok
    exact ⟨its, r, ⟨_, n, e, rfl, rfl, rfl⟩, z⟩
  · refine ⟨its.toList, r, ⟨o, n, I.kIn a o hk, hc, hd, by simpa using hs⟩, ?_⟩
    have e := r.length
    simp only [Array.length_toList] at e
    omega
theorem Inv.tuple (I : Inv X pins σ H s) (h : SqT X.K H a xs) : ∃ its : List Value, Vals xs its ∧ IsTup s.heap a its.toArray ∧ xs.length ≤ sizeLine := by
  rcases h with h | ⟨o, its, n, hk, hc, hs, hz, r⟩
  · obtain ⟨z, its, r, p⟩ := h.ok I.hok
    exact ⟨its, r, p, z⟩
  · refine ⟨its.toList, r, ⟨o, I.kIn a o hk, hc, n, by simpa using hs⟩, ?_⟩
    have e := r.length
    simp only [Array.length_toList] at e
    omega
theorem Inv.list_inj (I : Inv X pins σ H s) (h : SqL X.K H a xs) (h' : SqL X.K H a ys) : xs = ys := by
  obtain ⟨its, r, ⟨o, n, e, _, _, d⟩, _⟩ := I.list h
  obtain ⟨its', r', ⟨o', n', e', _, _, d'⟩, _⟩ := I.list h'
  rw [e] at e'; cases e'
  rw [d] at d'
  injection d' with d1 _
  have : its = its' := by simpa using congrArg Array.toList d1
  subst this
  exact r.inj r'
theorem Inv.tuple_inj (I : Inv X pins σ H s) (h : SqT X.K H a xs) (h' : SqT X.K H a ys) : xs = ys := by
  obtain ⟨its, r, ⟨o, e, _, n, d⟩, _⟩ := I.tuple h
  obtain ⟨its', r', ⟨o', e', _, n', d'⟩, _⟩ := I.tuple h'
  rw [e] at e'; cases e'
  rw [d] at d'
  injection d' with d1 _
  have : its = its' := by simpa using congrArg Array.toList d1
  subst this
  exact r.inj r'
end

abbrev Cx.wish (X : Cx) (E : Value → Shared → Prop) : Cx := { X with xe := E }
abbrev Cx.nox (X : Cx) : Cx := X.wish fun _ _ => False
theorem Cx.Ok.wish {X : Cx} (ok : X.Ok) (E : Value → Shared → Prop) : (X.wish E).Ok :=
  ⟨ok.mod, ok.kind, ok.glob, ok.blt, ok.above, ok.inj, ok.has, ok.cab, ok.hd, ok.frames, ok.stk, ok.exf, ok.bs, ok.bsz, ok.noex, ok.exfs, ok.funs, ok.frf⟩
theorem Cx.Ok.unwish {X : Cx} {E : Value → Shared → Prop} (ok : (X.wish E).Ok) : X.Ok :=
  ⟨ok.mod, ok.kind, ok.glob, ok.blt, ok.above, ok.inj, ok.has, ok.cab, ok.hd, ok.frames, ok.stk, ok.exf, ok.bs, ok.bsz, ok.noex, ok.exfs, ok.funs, ok.frf⟩
section
variable {X : Cx} {pins : List (Addr × Obj)} {σ : St} {H : Hp} {s : Shared} {E : Value → Shared → Prop}
theorem Inv.wish (I : Inv X pins σ H s) (E : Value → Shared → Prop) : Inv (X.wish E) pins σ H s := ⟨I.ok.wish E, I.os, I.bare, I.base, I.loc, I.cell, I.free, I.freeC, I.pin, I.hok, I.len⟩
theorem Inv.unwish (I : Inv (X.wish E) pins σ H s) : Inv X pins σ H s := ⟨I.ok.unwish, I.os, I.bare, I.base, I.loc, I.cell, I.free, I.freeC, I.pin, I.hok, I.len⟩
theorem SP.unwish {D : Ends} {f : Flow} {s' : Shared} (h : SP (X.wish E) pins D f s') : SP X pins D f s' := by
  cases f with
  | next => obtain ⟨σ', H', I, q⟩ := h; exact ⟨σ', H', I.unwish, q⟩
  | brk => obtain ⟨σ', H', I, q⟩ := h; exact ⟨σ', H', I.unwish, q⟩
  | cont => obtain ⟨σ', H', I, q⟩ := h; exact ⟨σ', H', I.unwish, q⟩
  | ret u => obtain ⟨v, σ', H', I, r, q⟩ := h; exact ⟨v, σ', H', I.unwish, r, q⟩
theorem PSs.nox {st : List Stmt} {t : TS} (h : PSs X.nox st t) : PSs X st t := fun pins s σ H D I hw =>
  wpAny_mono (h pins s σ H D (I.wish _) hw) (fun _ _ q => q.unwish) fun _ _ z => False.elim z
end

section
variable {X : Cx} {st : Stmt} {rest : List Stmt} {t u : TS} {e : Expr} {te : TE} {pos : Pos}
noncomputable def tNext : TS := fun D σ H => D.nx σ H
noncomputable def tSeq (t u : TS) : TS := fun D σ H => t { D with nx := u D } σ H
theorem pss_nil : PSs X [] tNext := fun _ _ σ H _ I h => wpAny_execs_nil ⟨σ, H, I, h⟩
theorem pss_cons (h1 : PS X st t) (h2 : PSs X rest u) : PSs X (st :: rest) (tSeq t u) := by
  intro pins s σ H D I h
  refine wpAny_execs_cons (thn (h1 pins s σ H { D with nx := u D } I h) fun f s1 q => ?_)
  cases f with
  | next =>
    obtain ⟨σ', H', I', q⟩ := q
    exact h2 pins s1 σ' H' D I' q
  | ret v => exact q
  | brk => exact q
  | cont => exact q
theorem pss_one (h1 : PS X st t) : PSs X [st] t := by
  intro pins s σ H D I h
  refine wpAny_execs_cons (thn (h1 pins s σ H D I h) fun f s1 q => ?_)
  cases f with
  | next => exact wpAny_execs_nil q
  | ret v => exact q
  | brk => exact q
  | cont => exact q
theorem Inv.quiet {pins : List (Addr × Obj)} {σ : St} {H : Hp} {s : Shared} (I : Inv X pins σ H s) : interactive X.env = false := by simp [interactive, I.ok.kind]
noncomputable def tDrop (te : TE) : TS := fun D σ H => te σ H fun _ H1 => D.nx σ H1
theorem ps_expr (he : PE X e te) (hs : swapsWith e none pos.line X.env = pure false := by rfl) : PS X (.Expr e pos) (tDrop te) := by
  intro pins s σ H D I h
  exact wpAny_Expr_any (thn (he pins s σ H _ I h) fun v s1 ⟨x, H1, I1, r1, q1⟩ => ⟨σ, H1, I1, q1⟩) I.quiet hs
noncomputable def tRet (te : TE) : TS := fun D σ H => te σ H D.rt
theorem ps_ret (he : PE X e te) : PS X (.Return (some e) pos) (tRet te) := by
  intro pins s σ H D I h
  exact wpAny_Return_some (thn (he pins s σ H _ I h) fun v s1 ⟨x, H1, I1, r1, q1⟩ => ⟨x, σ, H1, I1, r1, q1⟩)
noncomputable def tIfS (c : TT) (t u : TS) : TS := fun D σ H => c σ H fun b H1 => if b = true then t D σ H1 else u D σ H1
theorem ps_if {c : Expr} {a b : List Stmt} {tc : TT} (hc : PT X c tc) (ha : PSs X a t) (hb : PSs X b u) : PS X (.If c a b pos) (tIfS tc t u) := by
  intro pins s σ H D I h
  refine wpAny_If (thn (hc pins s σ H _ I h) fun d s1 ⟨H1, I1, q1⟩ => ?_)
  cases d with
  | true => exact ha pins s1 σ H1 D I1 q1
  | false => exact hb pins s1 σ H1 D I1 q1
end

abbrev TG := V → St → Hp → (St → Hp → Prop) → Prop
abbrev TGs := List V → St → Hp → (St → Hp → Prop) → Prop
noncomputable def PG (X : Cx) (target : Expr) (t : TG) : Prop :=
  ∀ (pins : List (Addr × Obj)) (s : Shared) (σ : St) (H : Hp) (v : V) (u : Value) (Q : St → Hp → Prop), Inv X pins σ H s → RelV v u → t v σ H Q →
    wpAny (model X.prog X.w) X.A (assign target X.env u) (fun _ s' => ∃ σ' H', Inv X pins σ' H' s' ∧ Q σ' H') X.xe s
noncomputable def PGs (X : Cx) (ts : List Expr) (t : TGs) : Prop :=
  ∀ (pins : List (Addr × Obj)) (s : Shared) (σ : St) (H : Hp) (vs : List V) (us : List Value) (Q : St → Hp → Prop), Inv X pins σ H s → Vals vs us → t vs σ H Q →
    wpAny (model X.prog X.w) X.A (assignInOrder ((assignEach ts X.env).map (·.2)) us) (fun _ s' => ∃ σ' H', Inv X pins σ' H' s' ∧ Q σ' H') X.xe s
abbrev TSet := V → V → V → Hp → (Hp → Prop) → Prop
noncomputable def PSet (X : Cx) (t : TSet) : Prop :=
  ∀ (pins : List (Addr × Obj)) (s : Shared) (σ : St) (H : Hp) (o i v : V) (ov iv u : Value) (Q : Hp → Prop), Inv X pins σ H s → RelV o ov → RelV i iv → RelV v u → t o i v H Q →
    wpAny (model X.prog X.w) X.A (setItem ov iv u) (fun _ s' => ∃ H', Inv X pins σ H' s' ∧ Q H') X.xe s
abbrev TIp := V → V → Hp → VK → Prop
noncomputable def PIp (X : Cx) (op : Operator) (t : TIp) : Prop :=
  ∀ (pins : List (Addr × Obj)) (s : Shared) (σ : St) (H : Hp) (x y : V) (v u : Value) (Q : VK), Inv X pins σ H s → RelV x v → RelV y u → t x y H Q →
    wpAny (model X.prog X.w) X.A (inplaceOp op v u) (EP X pins σ Q) X.xe s
section
variable {X : Cx} {pos : Pos}
noncomputable def gName (i : Nat) : TG := fun v σ H Q => Q (σ.set i (some v)) H
theorem pg_name {i : Nat} {x : Str} (hN : X.N.Nodup) (hi : X.N[i]? = some x) (hx : Loc X.env.scope x) (hf : X.fn x = true ∨ X.env.scope.names.lookup x = some .local := by first | exact .inl rfl | exact .inr rfl | assumption) : PG X (.Name x pos) (gName i) := by
  intro pins s σ H v u Q I r h
  exact wpAny_assign_Name (store_ok I hN hi hx r (fun s' I' => ⟨_, H, I', h⟩) hf)
noncomputable def gNil : TGs := fun vs σ H Q => vs = [] ∧ Q σ H
noncomputable def gCons (t : TG) (u : TGs) : TGs := fun vs σ H Q => ∃ v r, vs = v :: r ∧ t v σ H fun σ' H' => u r σ' H' Q
theorem pgs_nil : PGs X [] gNil := by
  intro pins s σ H vs us Q I r h
  obtain ⟨e, h⟩ := h
  subst e
  cases r
  exact assignInOrder_nil ⟨σ, H, I, h⟩
theorem pgs_cons {e : Expr} {es : List Expr} {t : TG} {u : TGs} (h1 : PG X e t) (h2 : PGs X es u)
    (hs : (assignEach (e :: es) X.env).map (·.2) = assign e X.env :: (assignEach es X.env).map (·.2) := by rfl) : PGs X (e :: es) (gCons t u) := by
  intro pins s σ H vs us Q I r h
  obtain ⟨v, vr, e1, h⟩ := h
  subst e1
  cases r with
  | cons r rr =>
    rw [hs]
    refine assignInOrder_cons (thn (h1 pins s σ H _ _ _ I r h) fun _ s1 ⟨σ1, H1, I1, q1⟩ => ?_)
    exact h2 pins s1 σ1 H1 _ _ Q I1 rr q1
noncomputable def gTup (K : PySem.W.Frag) (n : Nat) (t : TGs) : TG := fun v σ H Q => ∃ a xs, v = .ref a ∧ SqT K H a xs ∧ xs.length = n ∧ t xs σ H Q
theorem pg_tup {es : List Expr} {k : Nat} {t : TGs} {n : Nat} (hc : X.calm = true) (h : PGs X es t)
    (hn : (assignEach es X.env).length = n := by rfl) (hst : (assignEach es X.env).findIdx? (·.1) = none := by rfl) : PG X (.Tuple es k pos) (gTup X.K n t) := by
  intro pins s σ H v u Q I r hw
  obtain ⟨a, xs, e1, hq, hl, hw⟩ := hw
  subst e1
  cases r
  obtain ⟨its, rv, ht, hz⟩ := I.tuple hq
  refine assign_Tuple_tuple (I.ok.hd hc) ht (by simp [hn, ← hl, rv.length]) hst fun h' hx => ?_
  have I1 : Inv X pins σ H { s with heap := h' } := I.kept (t' := s.toks) fun b o e => hx b o (Nat.ne_of_lt (Heap.lt_size e)) e
  exact h pins _ σ H xs _ Q I1 (by simpa using rv) hw
noncomputable def gSub (to ti : TE) (t : TSet) : TG := fun v σ H Q => to σ H fun o H1 => ti σ H1 fun i H2 => t o i v H2 fun H3 => Q σ H3
theorem pg_sub {o i : Expr} {to ti : TE} {t : TSet} (ho : PE X o to) (hi : PE X i ti) (hs : PSet X t)
    (ha : ∀ v, assign (.Subscript o i pos) X.env v = (do
      let ov ← holding [v] (eval o X.env)
      let iv ← holding [v, ov] (eval i X.env)
      standAt pos
      holding [v, ov, iv] (setItem ov iv v)
      release [v, ov, iv] []) := by intro _; rfl) : PG X (.Subscript o i pos) (gSub to ti t) := by
  intro pins s σ H v u Q I r h
  rw [ha]
  refine wpAny_bind (wpAny_holding (thn (ho pins s σ H _ I h) fun ov s1 ⟨x, H1, I1, r1, q1⟩ => ?_))
  refine wpAny_bind (wpAny_holding (thn (hi pins s1 σ H1 _ I1 q1) fun iv s2 ⟨y, H2, I2, r2, q2⟩ => ?_))
  refine wpAny_bind (wpAny_standAt (wpAny_bind (wpAny_holding (thn (hs pins s2 σ H2 x y v ov iv u _ I2 r1 r2 r q2) fun _ s3 ⟨H3, I3, q3⟩ => ?_))))
  exact wpAny_release ⟨σ, H3, I3, q3⟩
noncomputable def tAsg (te : TE) (g : TG) : TS := fun D σ H => te σ H fun x H1 => g x σ H1 D.nx
theorem ps_asg {tg e : Expr} {te : TE} {g : TG} (he : PE X e te) (hg : PG X tg g) (hs : swapsWithSole [tg] e pos.line X.env = pure false := by rfl) (hw : swappedStores [tg] e X.env = pure none := by rfl)
    (h1 : (assignEach [tg] X.env).map (·.2) = [assign tg X.env] := by rfl) : PS X (.Assign [tg] e pos) (tAsg te g) := by
  intro pins s σ H D I h
  refine wpAny_Assign_stores (thn (he pins s σ H _ I h) fun v s1 ⟨x, H1, I1, r1, q1⟩ => ?_) hs hw
  rw [h1]
  exact thn (hg pins s1 σ H1 x v _ I1 r1 q1) fun _ s2 q => q
theorem ps_set {i : Nat} {x : Str} {e : Expr} {te : TE} {pos' : Pos} (hN : X.N.Nodup) (hi : X.N[i]? = some x) (hx : Loc X.env.scope x) (he : PE X e te) (hs : swapsWith e (some (.Name x pos')) pos.line X.env = pure false := by rfl) (hf : X.fn x = true ∨ X.env.scope.names.lookup x = some .local := by first | exact .inl rfl | exact .inr rfl | assumption) :
    PS X (.Assign [.Name x pos'] e pos) (tAsg te (gName i)) := by
  intro pins s σ H D I h
  refine wpAny_Assign_Name (thn (he pins s σ H _ I h) fun v s1 ⟨y, H1, I1, r1, q1⟩ => ?_) hs
  exact store_ok I1 hN hi hx r1 (fun s2 I2 => ⟨_, H1, I2, q1⟩) hf
noncomputable def tAug (i : Nat) (te : TE) (ti : TIp) : TS := fun D σ H => ∃ x, σ[i]? = some (some x) ∧ te σ H fun y H1 => ti x y H1 fun z H2 => D.nx (σ.set i (some z)) H2
theorem ps_aug {i : Nat} {x : Str} {e : Expr} {te : TE} {op : Operator} {ti : TIp} {pos' : Pos} (hN : X.N.Nodup) (hi : X.N[i]? = some x) (hx : Loc X.env.scope x) (he : PE X e te) (ho : PIp X op ti) (hf : X.fn x = true ∨ X.env.scope.names.lookup x = some .local := by first | exact .inl rfl | exact .inr rfl | assumption) :
    PS X (.AugAssign (.Name x pos') op e pos) (tAug i te ti) := by
  intro pins s σ H D I h
  obtain ⟨v, e1, h⟩ := h
  obtain ⟨m, hn, hl⟩ := I.loc
  have vis : Vis X.env.scope x := by rcases hx with k | k; exact .inl k; exact .inr (.inl k)
  obtain ⟨u, r, l⟩ := hl i x v hi e1 vis
  refine wpAny_AugAssign_Name ?_
  have go : wpAny (model X.prog X.w) X.A (eval e X.env) (fun w s₂ => wpAny (model X.prog X.w) X.A (inplaceOp op u w) (fun r s₃ => wpAny (model X.prog X.w) X.A (storeName X.env x r) (fun _ => SP X pins D .next) X.xe s₃) X.xe s₂) X.xe s := by
    refine thn (he pins s σ H _ I h) fun w s1 ⟨y, H1, I1, r1, q1⟩ => ?_
    refine thn (ho pins s1 σ H1 v y u w _ I1 r r1 q1) fun z s2 ⟨zv, H2, I2, r2, q2⟩ => ?_
    exact store_ok I2 hN hi hx r2 (fun s3 I3 => ⟨_, H2, I3, q2⟩) hf
  rcases l with ⟨hk, hm⟩ | ⟨hk, c, hc, hcell⟩
  · exact wpAny_loadName_local I.ok.kind hk hn hm go
  · rcases hk with hk | hk
    · exact wpAny_loadName_cell I.ok.kind hk hc hcell go
    · rcases hx with k | k
      · have : X.env.scope.names.lookup x = some .free := hk
        rw [k] at this; cases this
      · have : X.env.scope.names.lookup x = some .free := hk
        rw [k] at this; cases this
noncomputable def ipI (f : Int → Int → Int) : TIp := fun x y H Q => ∃ i j, x = .int i ∧ y = .int j ∧ Q (.int (f i j)) H
theorem ip_add : PIp X .Add (ipI fun i j => i + j) := by
  intro pins s σ H x y v u Q I r1 r2 h
  obtain ⟨i, j, e1, e2, q⟩ := h
  subst e1; subst e2
  obtain ⟨t, rfl⟩ := r1
  obtain ⟨t', rfl⟩ := r2
  exact iadd_int ⟨.int _, H, I.tok _, ⟨_, rfl⟩, q⟩
end

section
variable {X : Cx} {pos : Pos}
noncomputable def tWhile (c : TT) (tb : TS) : TS := fun D σ H => ∃ W : Nat → St → Hp → Prop, (∃ m, W m σ H) ∧ ∀ m σ H, W m σ H →
  c σ H fun b H1 => if b = true then ∃ N : St → Hp → Prop, (∀ σ' H', N σ' H' → ∃ m', m' < m ∧ W m' σ' H') ∧ tb { D with nx := N, ct := N, bk := D.nx } σ H1 else D.nx σ H1
theorem ps_while {c : Expr} {body : List Stmt} {tc : TT} {tb : TS} (hp : PassesOwn (model X.prog X.w) X.A X.env X.xe) (hc : PT X c tc) (hb : PSs X body tb) : PS X (.While c body [] pos) (tWhile tc tb) := by
  intro pins s σ H D I h
  obtain ⟨W, ⟨m0, w0⟩, turn⟩ := h
  refine wpAny_While (codeAny_whileLoop (fun n s' => ∃ σ' H', Inv X pins σ' H' s' ∧ W n σ' H') ?_ m0 ⟨σ, H, I, w0⟩)
  rintro n s1 ⟨σ1, H1, I1, w1⟩
  refine wpAny_passesOwn hp (thn (hc pins s1 σ1 H1 _ I1 (turn n σ1 H1 w1)) fun b s2 ⟨H2, I2, q2⟩ => ?_)
  cases b with
  | true =>
    obtain ⟨N, hN, q2⟩ := q2
    rw [if_pos rfl]
    refine wpAny_passesOwn hp (thn (hb pins s2 σ1 H2 _ I2 q2) fun f s3 q3 => ?_)
    cases f with
    | next =>
      obtain ⟨σ3, H3, I3, n3⟩ := q3
      obtain ⟨m', hm, w3⟩ := hN σ3 H3 n3
      exact ⟨m', hm, σ3, H3, I3, w3⟩
    | cont =>
      obtain ⟨σ3, H3, I3, n3⟩ := q3
      obtain ⟨m', hm, w3⟩ := hN σ3 H3 n3
      exact ⟨m', hm, σ3, H3, I3, w3⟩
    | brk => exact q3
    | ret v => exact q3
  | false =>
    rw [if_neg Bool.false_ne_true]
    exact wpAny_execs_nil ⟨σ1, H2, I2, q2⟩
end

structure It where
  go : Nat → Hp → Prop
  yld : Nat → Hp → V → Hp → Prop
  stop : Nat → Hp → Prop
noncomputable def FpOk (X : Cx) (pins : List (Addr × Obj)) (H : Hp) (b : Addr) : Prop :=
  H b = none ∧ b ≠ X.env.locals ∧ b ∉ X.fs ∧ (b ∈ X.ex ∨ X.s₀.heap.objs.size ≤ b) ∧ (∀ x c, X.env.cells.lookup x = some c → c ≠ b) ∧ ∀ p ∈ X.pn ++ pins, p.1 ≠ b
theorem Inv.fpOk {X : Cx} {pins : List (Addr × Obj)} {σ : St} {H H' : Hp} {s : Shared} {b : Addr} (I : Inv X pins σ H s) (hb : s.heap.objs.size ≤ b) (hn : H' b = none) : FpOk X pins H' b := by
  refine ⟨hn, Nat.ne_of_gt (Nat.lt_of_lt_of_le I.lt hb), I.nofs hb, .inr (Nat.le_trans I.sz hb), fun x c e z => ?_, fun p hp z => ?_⟩
  · obtain ⟨v, q⟩ := I.cell x c e
    exact absurd (Nat.lt_of_lt_of_le q.lt (by rw [z]; exact hb)) (Nat.lt_irrefl _)
  · exact absurd (Nat.lt_of_lt_of_le (Heap.lt_size (I.pin p hp).1) (by rw [z]; exact hb)) (Nat.lt_irrefl _)
structure Turn (P : Program) (w : World) (K : PySem.W.Frag) (tg : Expr) (J : It) (fp : List Addr) (it : Addr) (tn : Nat → Heap → Prop) : Prop where
  mem : it ∈ fp
  obj : ∀ i h, tn i h → ∀ b ∈ fp, ∃ o, h.get? b = some o ∧ ∀ v, o.data ≠ .cell v
  keep : ∀ i h h', tn i h → (∀ b ∈ fp, ∀ o, h.get? b = some o → h'.get? b = some o) → tn i h'
  item : ∀ (X : Cx), X.prog = P → X.w = w → X.K = K → X.calm = true → ∀ (i : Nat) (pins : List (Addr × Obj)) (s : Shared) (σ : St) (H : Hp) (E : Value → Shared → Prop), Inv X pins σ H s → (∀ b ∈ fp, FpOk X pins H b) → tn i s.heap → J.go i H →
    wpAny (model P w) X.A (pyNext (.ref it)) (fun r s1 => ∃ u, r = some u ∧
      wpAny (model P w) X.A (letOwnedTupleGo tg (.ref it) u) (fun _ s2 => ∃ x H', Inv X pins σ H' s2 ∧ RelV x u ∧ J.yld i H x H' ∧ tn (i + 1) s2.heap ∧ ∀ b ∈ fp, H' b = none) E s1) E s
  done : ∀ (X : Cx), X.prog = P → X.w = w → X.K = K → X.calm = true → ∀ (i : Nat) (pins : List (Addr × Obj)) (s : Shared) (σ : St) (H : Hp) (E : Value → Shared → Prop), Inv X pins σ H s → (∀ b ∈ fp, FpOk X pins H b) → tn i s.heap → J.stop i H →
    wpAny (model P w) X.A (pyNext (.ref it)) (fun r s1 => r = none ∧ Inv X pins σ H s1) E s
  self : ∀ (A : Around) (i : Nat) (s : Shared) (Q : Value → Shared → Prop) (E : Value → Shared → Prop), tn i s.heap → Q (.ref it) s → wpAny (model P w) A (pyIter (.ref it)) Q E s
abbrev TI := St → Hp → (It → Hp → Prop) → Prop
noncomputable def PIE (X : Cx) (pins : List (Addr × Obj)) (σ : St) (tg : Expr) (R : It → Hp → Prop) (itv : Value) (s2 : Shared) : Prop :=
  ∃ (it : Addr) (fp : List Addr) (tn : Nat → Heap → Prop) (J : It) (H' : Hp), itv = .ref it ∧ Inv X pins σ H' s2 ∧ Turn X.prog X.w X.K tg J fp it tn ∧ tn 0 s2.heap ∧ (∀ b ∈ fp, FpOk X pins H' b) ∧ R J H'
noncomputable def PI (X : Cx) (tg iter : Expr) (wi : TI) : Prop :=
  ∀ (pins : List (Addr × Obj)) (s : Shared) (σ : St) (H : Hp) (R : It → Hp → Prop), Inv X pins σ H s → wi σ H R →
    wpAny (model X.prog X.w) X.A (eval iter X.env) (fun v s1 => wpAny (model X.prog X.w) X.A (pyIter v) (PIE X pins σ tg R) X.xe s1) X.xe s

theorem go_of {M : Model} {A : Around} {E : Value → Shared → Prop} {s : Shared} {tg : Expr} {it : Addr} {u : Value} {o : Obj} {n : String} {vs : Array Value} {Q : Unit → Shared → Prop} (ho : s.heap.get? it = some o) (hc : o.cls = .type n) (hd : o.data = .fields vs)
    (hn : ["enumerate", "zip", "dict_itemiterator", "dict_reverseitemiterator", "odict_iterator", "itertools.zip_longest", "itertools.pairwise"].contains n = false) (hQ : Q () s) : wpAny M A (letOwnedTupleGo tg (.ref it) u) Q E s := by
  unfold letOwnedTupleGo
  cases tg <;> first
    | exact wpAny_pure hQ
    | (cases u <;> first
        | exact wpAny_pure hQ
        | (refine wpAny_bind (wpAny_load ho ?_)
           rw [hc, hd]
           show wpAny M A (if (["enumerate", "zip", "dict_itemiterator", "dict_reverseitemiterator", "odict_iterator", "itertools.zip_longest", "itertools.pairwise"].contains n && vs[0]? == some (rawInt _)) = true then _ else _) Q E s
           rw [if_neg (by intro h; rw [hn, Bool.false_and] at h; cases h)]
           exact wpAny_pure hQ))

noncomputable def Itl (K : PySem.W.Frag) (a : Addr) : It :=
  ⟨fun i H => ∃ xs x, SqL K H a xs ∧ xs[i]? = some x, fun i H x H' => H' = H ∧ ∀ xs, SqL K H a xs → xs[i]? = some x, fun i H => ∃ xs, SqL K H a xs ∧ xs.length ≤ i⟩
noncomputable def Itt (K : PySem.W.Frag) (a : Addr) : It :=
  ⟨fun i H => ∃ xs x, SqT K H a xs ∧ xs[i]? = some x, fun i H x H' => H' = H ∧ ∀ xs, SqT K H a xs → xs[i]? = some x, fun i H => ∃ xs, SqT K H a xs ∧ xs.length ≤ i⟩
noncomputable def Itr (lo : Int) (n : Nat) : It := ⟨fun i _ => i < n, fun i H x H' => H' = H ∧ x = .int (lo + i), fun i _ => n ≤ i⟩
theorem turn_list {P : Program} {w : World} {K : PySem.W.Frag} {tg : Expr} (a it : Addr) : Turn P w K tg (Itl K a) [it] it (fun i h => h.IsListIter it a i) where
  mem := by simp
  obj := fun i h st b hb => by
    have e : b = it := by simpa using hb
    subst e
    obtain ⟨o, e, c, d⟩ := st
    exact ⟨o, e, fun v z => by rw [d] at z; cases z⟩
  keep := fun i h h' st k => st.at fun o e => k it (by simp) o e
  item := by
    intro X hP hw hK hc i pins s σ H E I hf st hg
    subst hP hw hK
    obtain ⟨xs, x, hq, hx⟩ := hg
    obtain ⟨its, rv, p, hz⟩ := I.list hq
    obtain ⟨u, hu, ru⟩ := rv.get hx
    obtain ⟨f0, f1, f2, f3, f4, f5⟩ := hf it (by simp)
    refine wpAny_pyNext_list_item st p.isList (x := u) (by simpa using hu) fun h' st' sb => ?_
    have I1 : Inv X pins σ H { s with heap := h' } := I.turned (t' := s.toks) (fun b o hb e => (sb.2 b hb).trans e) f0 f1 f3 f4 f5
    obtain ⟨o, e, c, d⟩ := id st'
    exact ⟨u, rfl, go_of (s := { s with heap := h' }) e c d (by decide) ⟨x, H, I1, ru, ⟨rfl, fun ys hy => by rw [I.list_inj hy hq]; exact hx⟩, st', fun b hb => (hf b hb).1⟩⟩
  done := by
    intro X hP hw hK hc i pins s σ H E I hf st hg
    subst hP hw hK
    obtain ⟨xs, hq, hx⟩ := hg
    obtain ⟨its, rv, p, hz⟩ := I.list hq
    obtain ⟨f0, f1, f2, f3, f4, f5⟩ := hf it (by simp)
    have hl := rv.length
    exact wpAny_pyNext_list_end (I.ok.hd hc) st p.isList (by simp; omega) fun h' eb => ⟨rfl, I.turned (t' := s.toks) (fun b o hb e => eb b o hb e) f0 f1 f3 f4 f5⟩
  self := fun _ _ _ _ _ st h => wpAny_pyIter_listiter st h
theorem turn_tuple {P : Program} {w : World} {K : PySem.W.Frag} {tg : Expr} (a it : Addr) : Turn P w K tg (Itt K a) [it] it (fun i h => h.IsTupleIter it a i) where
  mem := by simp
  obj := fun i h st b hb => by
    have e : b = it := by simpa using hb
    subst e
    obtain ⟨o, e, c, d⟩ := st
    exact ⟨o, e, fun v z => by rw [d] at z; cases z⟩
  keep := fun i h h' st k => st.at fun o e => k it (by simp) o e
  item := by
    intro X hP hw hK hc i pins s σ H E I hf st hg
    subst hP hw hK
    obtain ⟨xs, x, hq, hx⟩ := hg
    obtain ⟨its, rv, p, hz⟩ := I.tuple hq
    obtain ⟨u, hu, ru⟩ := rv.get hx
    obtain ⟨f0, f1, f2, f3, f4, f5⟩ := hf it (by simp)
    refine wpAny_pyNext_tuple_item st (show s.heap.IsTuple a its.toArray from p) (x := u) (by simpa using hu) fun h' st' sb => ?_
    have I1 : Inv X pins σ H { s with heap := h' } := I.turned (t' := s.toks) (fun b o hb e => (sb.2 b hb).trans e) f0 f1 f3 f4 f5
    obtain ⟨o, e, c, d⟩ := id st'
    exact ⟨u, rfl, go_of (s := { s with heap := h' }) e c d (by decide) ⟨x, H, I1, ru, ⟨rfl, fun ys hy => by rw [I.tuple_inj hy hq]; exact hx⟩, st', fun b hb => (hf b hb).1⟩⟩
  done := by
    intro X hP hw hK hc i pins s σ H E I hf st hg
    subst hP hw hK
    obtain ⟨xs, hq, hx⟩ := hg
    obtain ⟨its, rv, p, hz⟩ := I.tuple hq
    obtain ⟨f0, f1, f2, f3, f4, f5⟩ := hf it (by simp)
    have hl := rv.length
    exact wpAny_pyNext_tuple_end (I.ok.hd hc) st (show s.heap.IsTuple a its.toArray from p) (by simp; omega) fun h' eb => ⟨rfl, I.turned (t' := s.toks) (fun b o hb e => eb b o hb e) f0 f1 f3 f4 f5⟩
  self := fun _ _ _ _ _ st h => wpAny_pyIter_tupleiter st h
theorem turn_range {P : Program} {w : World} {K : PySem.W.Frag} {tg : Expr} (it : Addr) (lo : Int) (n : Nat) : Turn P w K tg (Itr lo n) [it] it (fun i h => IsRangeIter h it (lo + (i : Nat) * 1) ((n : Int) - (i : Nat)) 1) where
  mem := by simp
  obj := fun i h st b hb => by
    have e : b = it := by simpa using hb
    subst e
    exact ⟨_, st, fun v z => by
      have z' : Data.fields _ = Data.cell v := z
      cases z'⟩
  keep := fun i h h' st k => k it (by simp) _ st
  item := by
    intro X hP hw hK hc i pins s σ H E I hf st hg
    subst hP hw hK
    obtain ⟨f0, f1, f2, f3, f4, f5⟩ := hf it (by simp)
    have W := Walks.range (prog := X.prog) (w := X.w) (I.ok.hd hc) it lo 1 n
    refine W.item i s _ _ hg st fun v h' tk hv st' kk => ?_
    obtain ⟨t, rfl⟩ := hv
    have I1 : Inv X pins σ H { s with heap := h', toks := tk } := I.turned (fun b o hb e => kk b o (by simpa using hb) e) f0 f1 f3 f4 f5
    refine ⟨_, rfl, go_of (s := { s with heap := h', toks := tk }) (n := "range_iterator") st' rfl rfl (by decide) ⟨.int (lo + i), H, I1, ⟨t, ?_⟩, ⟨rfl, rfl⟩, st', fun b hb => (hf b hb).1⟩⟩
    rw [Int.mul_one]
  done := by
    intro X hP hw hK hc i pins s σ H E I hf st hg
    subst hP hw hK
    obtain ⟨f0, f1, f2, f3, f4, f5⟩ := hf it (by simp)
    exact wpAny_pyNext_range_end (I.ok.hd hc) st (by have : n ≤ i := hg; omega) fun h' eb => ⟨rfl, I.turned (t' := s.toks) (fun b o hb e => eb b o hb e) f0 f1 f3 f4 f5⟩
  self := fun _ _ _ _ _ st h => wpAny_pyIter_rangeiter st h
end L2

namespace L2
open PySem PySem.Spec PyProof.Rows
section
variable {X : Cx} {tg : Expr}
noncomputable def iList (K : PySem.W.Frag) (tl : TE) : TI := fun σ H R => tl σ H fun x H1 => ∃ a, x = .ref a ∧ (∃ xs, SqL K H1 a xs) ∧ R (Itl K a) H1
noncomputable def iTup (K : PySem.W.Frag) (tl : TE) : TI := fun σ H R => tl σ H fun x H1 => ∃ a, x = .ref a ∧ (∃ xs, SqT K H1 a xs) ∧ R (Itt K a) H1
theorem pi_list {l : Expr} {tl : TE} (hl : PE X l tl) : PI X tg l (iList X.K tl) := by
  intro pins s σ H R I h
  refine thn (hl pins s σ H _ I h) fun v s1 ⟨x, H1, I1, r1, q1⟩ => ?_
  obtain ⟨a, e, ⟨xs, hq⟩, q⟩ := q1
  subst e
  cases r1
  obtain ⟨its, rv, p, hz⟩ := I1.list hq
  refine wpAny_pyIter_list p.isList ?_
  refine ⟨s1.heap.objs.size, [s1.heap.objs.size], _, _, H1, rfl, I1.kept (t' := s1.toks) fun b o e => Heap.get?_push_of_some _ e, turn_list a _, ⟨_, Heap.get?_push_size _ rfl, rfl, rfl⟩, fun b hb => ?_, q⟩
  have e : b = s1.heap.objs.size := by simpa using hb
  subst e
  exact I1.fpOk (Nat.le_refl _) (I1.hok.fresh (Nat.le_refl _))
theorem pi_tup {l : Expr} {tl : TE} (hl : PE X l tl) : PI X tg l (iTup X.K tl) := by
  intro pins s σ H R I h
  refine thn (hl pins s σ H _ I h) fun v s1 ⟨x, H1, I1, r1, q1⟩ => ?_
  obtain ⟨a, e, ⟨xs, hq⟩, q⟩ := q1
  subst e
  cases r1
  obtain ⟨its, rv, p, hz⟩ := I1.tuple hq
  refine wpAny_pyIter_tuple (show s1.heap.IsTuple a its.toArray from p) ?_
  refine ⟨s1.heap.objs.size, [s1.heap.objs.size], _, _, H1, rfl, I1.kept (t' := s1.toks) fun b o e => Heap.get?_push_of_some _ e, turn_tuple a _, ⟨_, Heap.get?_push_size _ rfl, rfl, rfl⟩, fun b hb => ?_, q⟩
  have e : b = s1.heap.objs.size := by simpa using hb
  subst e
  exact I1.fpOk (Nat.le_refl _) (I1.hok.fresh (Nat.le_refl _))
theorem range_it {pins : List (Addr × Obj)} {σ : St} {H : Hp} {s : Shared} {R : It → Hp → Prop} {E : Value → Shared → Prop} {lo hi : Int} {t u v : Tok} {tk : Nat} (I : Inv X pins σ H s) (h1 : -(2 ^ 62) ≤ lo) (h2 : lo < 2 ^ 62) (h3 : -(2 ^ 62) ≤ hi) (h4 : hi < 2 ^ 62)
    (q : R (Itr lo (hi - lo).toNat) H) : wpAny (model X.prog X.w) X.A (pyIter (.ref s.heap.objs.size)) (PIE X pins σ tg R) E { s with heap := s.heap.push { cls := .type "range", data := .fields #[.int lo t, .int hi u, .int 1 v] }, toks := tk } := by
  refine wpAny_pyIter_range (IsRange.new ..) (small_one h1 h2 h3 h4) ?_
  have I1 : Inv X pins σ H { s with heap := s.heap.push { cls := .type "range", data := .fields #[.int lo t, .int hi u, .int 1 v] }, toks := tk } := I.kept fun b o e => Heap.get?_push_of_some _ e
  refine ⟨(s.heap.push { cls := .type "range", data := .fields #[.int lo t, .int hi u, .int 1 v] }).objs.size, [(s.heap.push { cls := .type "range", data := .fields #[.int lo t, .int hi u, .int 1 v] }).objs.size], _, _, H, rfl,
    I1.kept (t' := tk) fun b o e => Heap.get?_push_of_some _ e, turn_range _ lo (hi - lo).toNat, ?_, fun b hb => ?_, q⟩
  · have e1 : lo + ((0 : Nat) : Int) * 1 = lo := by simp
    have e2 : (((hi - lo).toNat : Nat) : Int) - ((0 : Nat) : Int) = Builtin.Range.rangeSize lo hi 1 := by rw [rangeSize_one]; split <;> omega
    show IsRangeIter _ _ (lo + ((0 : Nat) : Int) * 1) ((((hi - lo).toNat : Nat) : Int) - ((0 : Nat) : Int)) 1
    rw [e1, e2]
    exact Heap.get?_push_size _ rfl
  · have e : b = (s.heap.push { cls := .type "range", data := .fields #[.int lo t, .int hi u, .int 1 v] }).objs.size := by simpa using hb
    subst e
    exact I1.fpOk (Nat.le_refl _) (I1.hok.fresh (Nat.le_refl _))
noncomputable def iRng1 (ta : TA) : TI := fun σ H R => ta σ H fun vs H1 => ∃ j : Int, vs = [.int j] ∧ -(2 ^ 62) ≤ j ∧ j < 2 ^ 62 ∧ R (Itr 0 j.toNat) H1
theorem pi_range1 {a : Expr} {ta : TA} {p pos : Pos} (hg : Gl X "range") (hm : X.mg "range" = none) (ha : PA X [a] ta) (hs : starEach [a] X.env = [(false, eval a X.env)] := by rfl) : PI X tg (.Call (.Name "range" p) [a] [] pos) (iRng1 ta) := by
  intro pins s σ H R I h
  refine Call_ (ld_blt I hg hm boot_range (PyProof.Rows.callWith_type1 (thn (ha pos pins s σ H _ I h) fun us s1 ⟨vs, H1, I1, r1, q1⟩ => ?_) hs rfl))
  obtain ⟨j, e, q1, q2, q⟩ := q1
  subst e
  cases r1 with
  | cons r rr =>
    cases rr
    obtain ⟨t, rfl⟩ := r
    exact call_range_1 (range_it I1 (by omega) (by omega) q1 q2 (by simpa using q))

noncomputable def tFor (wi : TI) (g : TG) (tb : TS) : TS := fun D σ H => wi σ H fun J H1 => ∃ W : Nat → Nat → St → Hp → Prop, (∃ m, W 0 m σ H1) ∧ ∀ i m σ H, W i m σ H →
  (J.stop i H ∧ D.nx σ H) ∨ (J.go i H ∧ ∃ N : St → Hp → Prop, (∀ σ' H', N σ' H' → ∃ m', m' < m ∧ W (i + 1) m' σ' H') ∧ ∀ x H', J.yld i H x H' → g x σ H' fun σ2 H2 => tb { D with nx := N, ct := N, bk := D.nx } σ2 H2)
noncomputable def pinsAt (fp : List Addr) (h : Heap) : List (Addr × Obj) := fp.filterMap fun b => (h.get? b).map fun o => (b, o)
theorem mem_pinsAt {fp : List Addr} {h : Heap} {b : Addr} {o : Obj} (hb : b ∈ fp) (e : h.get? b = some o) : (b, o) ∈ pinsAt fp h := List.mem_filterMap.mpr ⟨b, hb, by rw [e]; rfl⟩
theorem of_pinsAt {fp : List Addr} {h : Heap} {p : Addr × Obj} (hp : p ∈ pinsAt fp h) : p.1 ∈ fp ∧ h.get? p.1 = some p.2 := by
  obtain ⟨b, hb, e⟩ := List.mem_filterMap.mp hp
  cases q : h.get? b with
  | none => rw [q] at e; cases e
  | some o =>
    rw [q] at e
    have e' : (b, o) = p := Option.some.inj e
    subst e'
    exact ⟨hb, q⟩
theorem Inv.pinned {pins : List (Addr × Obj)} {σ : St} {H : Hp} {s : Shared} {fp : List Addr} (I : Inv X pins σ H s) (hf : ∀ b ∈ fp, FpOk X pins H b) (ho : ∀ b ∈ fp, ∃ o, s.heap.get? b = some o ∧ ∀ v, o.data ≠ .cell v) : Inv X (pins ++ pinsAt fp s.heap) σ H s :=
  I.pins_of fun p hp => (List.mem_append.mp hp).elim (fun z => I.pin p (List.mem_append_right _ z)) fun z => by
    obtain ⟨hb, e⟩ := of_pinsAt z
    obtain ⟨f0, f1, f2, _⟩ := hf p.1 hb
    obtain ⟨o, e', d⟩ := ho p.1 hb
    rw [e] at e'; cases e'
    exact ⟨e, f0, f1, f2, d⟩
theorem Inv.unpinned {pins pl : List (Addr × Obj)} {σ : St} {H : Hp} {s : Shared} (I : Inv X (pins ++ pl) σ H s) : Inv X pins σ H s := I.pins_of fun p hp => I.pin p (List.mem_append_right _ (List.mem_append_left _ hp))
theorem ps_for {iter : Expr} {body : List Stmt} {wi : TI} {g : TG} {tb : TS} {pos : Pos} (hp : PassesOwn (model X.prog X.w) X.A X.env X.xe) (hc : X.calm = true) (hi : PI X tg iter wi) (hg : PG X tg g) (hb : PSs X body tb)
    (hs : ∀ x, foldedSetIterable iter X.env x = pure x := by intro _; rfl) : PS X (.For tg iter body [] pos) (tFor wi g tb) := by
  intro pins s σ H D I h
  refine wpAny_For (thn (hi pins s σ H _ I h) fun v s1 h1 => thn h1 fun itv s2 h2 => ?_) hs
  obtain ⟨it, fp, tn, J, H2, e, I2, T, st2, f2, W, ⟨m0, w0⟩, turn⟩ := h2
  subst e
  -- what stays true of the iterator's objects through the loop
  have stat : ∀ {H' : Hp}, (∀ b ∈ fp, H' b = none) → ∀ b ∈ fp, FpOk X pins H' b := fun hn b hb => ⟨hn b hb, (f2 b hb).2⟩
  refine codeAny_forLoop_any (fun n s' => ∃ i σ' H', Inv X pins σ' H' s' ∧ tn i s'.heap ∧ (∀ b ∈ fp, H' b = none) ∧ W i n σ' H') ?_ m0 ⟨0, σ, H2, I2, st2, fun b hb => (f2 b hb).1, w0⟩
  rintro n s3 ⟨i, σ3, H3, I3, st3, fr3, w3⟩
  rcases turn i n σ3 H3 w3 with ⟨stop, qn⟩ | ⟨go, N, hN, step⟩
  · refine wpAny_passesOwn hp (thn (T.done X rfl rfl rfl hc i pins s3 σ3 H3 X.xe I3 (stat fr3) st3 stop) fun r s4 ⟨hr, I4⟩ => ?_)
    subst hr
    exact wpAny_execs_nil ⟨σ3, H3, I4, qn⟩
  · refine wpAny_passesOwn hp (thn (T.item X rfl rfl rfl hc i pins s3 σ3 H3 X.xe I3 (stat fr3) st3 go) fun r s4 ⟨u, hr, h4⟩ => ?_)
    subst hr
    refine wpAny_passesOwn hp (thn h4 fun _ s5 ⟨x, H5, I5, r5, y5, st5, fr5⟩ => ?_)
    have I5' := I5.pinned (stat fr5) (T.obj _ _ st5)
    refine wpAny_passesOwn hp (thn (hg _ s5 σ3 H5 x u _ I5' r5 (step x H5 y5)) fun _ s6 ⟨σ6, H6, I6, q6⟩ => ?_)
    refine wpAny_passesOwn hp (thn (hb _ s6 σ6 H6 _ I6 q6) fun f s7 q7 => ?_)
    have again : ∀ {σ7 : St} {H7 : Hp}, Inv X (pins ++ pinsAt fp s5.heap) σ7 H7 s7 → N σ7 H7 → ∃ m, m < n ∧ ∃ i σ' H', Inv X pins σ' H' s7 ∧ tn i s7.heap ∧ (∀ b ∈ fp, H' b = none) ∧ W i m σ' H' := fun {σ7 H7} I7 n7 => by
      obtain ⟨m', hm, w7⟩ := hN σ7 H7 n7
      refine ⟨m', hm, i + 1, σ7, H7, I7.unpinned, T.keep _ _ _ st5 fun b hb o e => (I7.pin (b, o) (List.mem_append_right _ (List.mem_append_right _ (mem_pinsAt hb e)))).1, fun b hb => ?_, w7⟩
      obtain ⟨o, e, d⟩ := T.obj _ _ st5 b hb
      exact (I7.pin (b, o) (List.mem_append_right _ (List.mem_append_right _ (mem_pinsAt hb e)))).2.1
    cases f with
    | next => obtain ⟨σ7, H7, I7, n7⟩ := q7; exact again I7 n7
    | cont => obtain ⟨σ7, H7, I7, n7⟩ := q7; exact again I7 n7
    | brk => obtain ⟨σ7, H7, I7, q7⟩ := q7; exact ⟨σ7, H7, I7.unpinned, q7⟩
    | ret v => obtain ⟨x7, σ7, H7, I7, r7, q7⟩ := q7; exact ⟨x7, σ7, H7, I7.unpinned, r7, q7⟩
end

theorem for_list {K : PySem.W.Frag} {a : Addr} {xs : List V} {g : TG} {tb : TS} {D : Ends} {σ : St} {H : Hp} (Pv : Nat → St → Hp → Prop) (h0 : Pv 0 σ H) (hl : ∀ i σ H, i ≤ xs.length → Pv i σ H → SqL K H a xs)
    (hs : ∀ i x σ H, xs[i]? = some x → Pv i σ H → g x σ H fun σ2 H2 => tb { D with nx := Pv (i + 1), ct := Pv (i + 1), bk := D.nx } σ2 H2) (hd : ∀ σ H, Pv xs.length σ H → D.nx σ H) :
    ∃ W : Nat → Nat → St → Hp → Prop, (∃ m, W 0 m σ H) ∧ ∀ i m σ H, W i m σ H →
      ((Itl K a).stop i H ∧ D.nx σ H) ∨ ((Itl K a).go i H ∧ ∃ N : St → Hp → Prop, (∀ σ' H', N σ' H' → ∃ m', m' < m ∧ W (i + 1) m' σ' H') ∧ ∀ x H', (Itl K a).yld i H x H' → g x σ H' fun σ2 H2 => tb { D with nx := N, ct := N, bk := D.nx } σ2 H2) := by
  refine ⟨fun i m σ H => m = xs.length - i ∧ i ≤ xs.length ∧ Pv i σ H, ⟨xs.length, by simp, Nat.zero_le _, h0⟩, ?_⟩
  rintro i m σ H ⟨rfl, hi, p⟩
  have q := hl i σ H hi p
  by_cases hlt : i < xs.length
  · refine .inr ⟨⟨xs, xs[i], q, by simp [hlt]⟩, Pv (i + 1), fun σ' H' p' => ⟨xs.length - (i + 1), by omega, rfl, hlt, p'⟩, fun x H' y => ?_⟩
    obtain ⟨e, y⟩ := y
    subst e
    exact hs i x σ _ (y xs q) p
  · have e : i = xs.length := by omega
    subst e
    exact .inl ⟨⟨xs, q, Nat.le_refl _⟩, hd σ H p⟩
theorem for_range {lo : Int} {n : Nat} {g : TG} {tb : TS} {D : Ends} {σ : St} {H : Hp} (Pv : Nat → St → Hp → Prop) (h0 : Pv 0 σ H)
    (hs : ∀ i σ H, i < n → Pv i σ H → g (.int (lo + i)) σ H fun σ2 H2 => tb { D with nx := Pv (i + 1), ct := Pv (i + 1), bk := D.nx } σ2 H2) (hd : ∀ σ H, Pv n σ H → D.nx σ H) :
    ∃ W : Nat → Nat → St → Hp → Prop, (∃ m, W 0 m σ H) ∧ ∀ i m σ H, W i m σ H →
      ((Itr lo n).stop i H ∧ D.nx σ H) ∨ ((Itr lo n).go i H ∧ ∃ N : St → Hp → Prop, (∀ σ' H', N σ' H' → ∃ m', m' < m ∧ W (i + 1) m' σ' H') ∧ ∀ x H', (Itr lo n).yld i H x H' → g x σ H' fun σ2 H2 => tb { D with nx := N, ct := N, bk := D.nx } σ2 H2) := by
  refine ⟨fun i m σ H => m = n - i ∧ i ≤ n ∧ Pv i σ H, ⟨n, by simp, Nat.zero_le _, h0⟩, ?_⟩
  rintro i m σ H ⟨rfl, hi, p⟩
  by_cases hlt : i < n
  · refine .inr ⟨hlt, Pv (i + 1), fun σ' H' p' => ⟨n - (i + 1), by omega, rfl, hlt, p'⟩, fun x H' y => ?_⟩
    obtain ⟨e, y⟩ := y
    subst e y
    exact hs i σ _ hlt p
  · have e : i = n := by omega
    subst e
    exact .inl ⟨Nat.le_refl _, hd σ H p⟩
end L2

namespace L2
open PySem PySem.Spec PyProof.Rows

abbrev R2 := V → V → Hp → VK → Prop
noncomputable def OpR (X : Cx) (f : Value → Value → Sem Value) (r : R2) : Prop :=
  ∀ (pins : List (Addr × Obj)) (s : Shared) (σ : St) (H : Hp) (x y : V) (v u : Value) (Q : VK), Inv X pins σ H s → RelV x v → RelV y u → r x y H Q →
    wpAny (model X.prog X.w) X.A (f v u) (EP X pins σ Q) X.xe s
noncomputable def CallR (X : Cx) (f : Value) (r : List V → Hp → VK → Prop) : Prop :=
  ∀ (pins : List (Addr × Obj)) (s : Shared) (σ : St) (H : Hp) (xs : List V) (us : List Value) (Q : VK), Inv X pins σ H s → Vals xs us → r xs H Q →
    wpAny (model X.prog X.w) X.A (call f us) (EP X pins σ Q) X.xe s

noncomputable def tOp (r : R2) (ta tb : TE) : TE := fun σ H Q => ta σ H fun x H1 => tb σ H1 fun y H2 => r x y H2 Q
noncomputable def tUn (r : V → Hp → VK → Prop) (ta : TE) : TE := fun σ H Q => ta σ H fun x H1 => r x H1 Q
noncomputable def rI (C : Int → Int → Prop) (g : Int → Int → V) : R2 := fun x y H Q => ∃ i j, x = .int i ∧ y = .int j ∧ C i j ∧ Q (g i j) H
noncomputable def rI0 (g : Int → Int → V) : R2 := fun x y H Q => ∃ i j, x = .int i ∧ y = .int j ∧ Q (g i j) H
noncomputable def rU (g : Int → V) : V → Hp → VK → Prop := fun x H Q => ∃ i, x = .int i ∧ Q (g i) H

section
variable {X : Cx} {a b c : Expr} {ta tb tc : TE} {pos : Pos}

theorem binT (ha : PE X a ta) (hb : PE X b tb) {pins : List (Addr × Obj)} {s : Shared} {σ : St} {H : Hp} {R : V → V → Hp → Prop} (I : Inv X pins σ H s)
    (h : ta σ H fun x H1 => tb σ H1 fun y H2 => R x y H2) {Q : Value → Shared → Prop} {f : Value → Value → Sem Value}
    (hf : ∀ v u s2 x y H2, Inv X pins σ H2 s2 → RelV x v → RelV y u → R x y H2 → wpAny (model X.prog X.w) X.A (f v u) Q X.xe s2) :
    wpAny (model X.prog X.w) X.A (eval a X.env) (fun v s₁ => wpAny (model X.prog X.w) X.A (eval b X.env) (fun u s₂ => wpAny (model X.prog X.w) X.A (f v u) Q X.xe s₂) X.xe s₁) X.xe s := by
  refine thn (ha pins s σ H _ I h) fun v s1 ⟨x, H1, I1, r1, q1⟩ => ?_
  refine thn (hb pins s1 σ H1 _ I1 q1) fun u s2 ⟨y, H2, I2, r2, q2⟩ => ?_
  exact hf v u s2 x y H2 I2 r1 r2 q2

theorem pe_op {op : Operator} {r : R2} (ho : OpR X (binaryOp op) r) (ha : PE X a ta) (hb : PE X b tb) : PE X (.BinOp a op b pos) (tOp r ta tb) := by
  intro pins s σ H Q I h
  exact wpAny_BinOp (binT ha hb I h fun v u s2 x y H2 I2 rx ry q => ho pins s2 σ H2 x y v u Q I2 rx ry q)

theorem opI {f : Value → Value → Sem Value} {C : Int → Int → Prop} {g : Int → Int → Int}
    (rule : ∀ (i j : Int) (t u : Tok) (s : Shared) (Q : Value → Shared → Prop) (E : Value → Shared → Prop), C i j → Q (.int (g i j) s.toks) { s with toks := s.toks + 1 } → wpAny (model X.prog X.w) X.A (f (.int i t) (.int j u)) Q E s) :
    OpR X f (rI C fun i j => .int (g i j)) := by
  intro pins s σ H x y v u Q I rx ry h
  obtain ⟨i, j, rfl, rfl, hc, q⟩ := h
  obtain ⟨t, rfl⟩ := rx
  obtain ⟨t', rfl⟩ := ry
  exact rule i j t t' s _ _ hc ⟨.int (g i j), H, I.tok _, ⟨_, rfl⟩, q⟩
theorem opI0 {f : Value → Value → Sem Value} {g : Int → Int → Int}
    (rule : ∀ (i j : Int) (t u : Tok) (s : Shared) (Q : Value → Shared → Prop) (E : Value → Shared → Prop), Q (.int (g i j) s.toks) { s with toks := s.toks + 1 } → wpAny (model X.prog X.w) X.A (f (.int i t) (.int j u)) Q E s) :
    OpR X f (rI0 fun i j => .int (g i j)) := by
  intro pins s σ H x y v u Q I rx ry h
  obtain ⟨i, j, rfl, rfl, q⟩ := h
  obtain ⟨t, rfl⟩ := rx
  obtain ⟨t', rfl⟩ := ry
  exact rule i j t t' s _ _ ⟨.int (g i j), H, I.tok _, ⟨_, rfl⟩, q⟩
theorem opB0 {f : Value → Value → Sem Value} {g : Int → Int → Bool}
    (rule : ∀ (i j : Int) (t u : Tok) (s : Shared) (Q : Value → Shared → Prop) (E : Value → Shared → Prop), Q (.bool (g i j)) s → wpAny (model X.prog X.w) X.A (f (.int i t) (.int j u)) Q E s) :
    OpR X f (rI0 fun i j => .bl (g i j)) := by
  intro pins s σ H x y v u Q I rx ry h
  obtain ⟨i, j, rfl, rfl, q⟩ := h
  obtain ⟨t, rfl⟩ := rx
  obtain ⟨t', rfl⟩ := ry
  exact rule i j t t' s _ _ ⟨.bl (g i j), H, I, rfl, q⟩

noncomputable def CDiv (i j : Int) : Prop := 0 < j ∧ j < 1073741824
noncomputable def CPow (i j : Int) : Prop := 0 ≤ j ∧ j ≤ 1000000 ∧ i.natAbs < 2 ^ 64
noncomputable def CMul (i j : Int) : Prop := (-(2 ^ 64) < i ∧ i < 2 ^ 64) ∨ (-(2 ^ 64) < j ∧ j < 2 ^ 64)
theorem CMul.ok {i j : Int} (h : CMul i j) : IntMulOk i j := by
  rcases h with ⟨h1, h2⟩ | ⟨h1, h2⟩
  · exact .of_left (intBits_le_64 h1 h2)
  · exact .of_right (intBits_le_64 h1 h2)

theorem op_add : OpR X (binaryOp .Add) (rI0 fun i j => .int (i + j)) := opI0 fun _ _ _ _ _ _ _ q => add_int q
theorem op_mul : OpR X (binaryOp .Mult) (rI CMul fun i j => .int (i * j)) := opI fun _ _ _ _ _ _ _ hc q => mul_int q hc.ok
theorem op_fdiv : OpR X (binaryOp .FloorDiv) (rI CDiv fun i j => .int (i / j)) := opI fun i j _ _ _ _ _ hc q => by
  have h1 : (0 : Int) < j := hc.1
  have h2 : j < 1073741824 := hc.2
  exact floordiv_int (by omega) (by rw [Int.fdiv_eq_ediv_of_nonneg i (by omega)]; exact q) (.inl (PyProof.noPylong_small (by omega)))
theorem op_mod : OpR X (binaryOp .Mod) (rI (fun _ j => 0 < j) fun i j => .int (i % j)) := opI fun i j _ _ _ _ _ hc q => by
  have h1 : (0 : Int) < j := hc
  exact mod_int' (by omega) (by rw [Int.fmod_eq_emod_of_nonneg i (by omega)]; exact q)
theorem op_pow : OpR X (binaryOp .Pow) (rI CPow fun i j => .int (i ^ j.toNat)) := opI fun _ _ _ _ _ _ _ hc q => pow_int_small hc.1 hc.2.1 hc.2.2 q



end

noncomputable def scal : V → V → Bool
  | .non, .non => true | .non, .int _ => true | .int _, .non => true | .non, .bl _ => true | .bl _, .non => true | .non, .str _ => true | .str _, .non => true
  | .int _, .int _ => true | .bl _, .bl _ => true | .str _, .str _ => true | .byt _, .byt _ => true
  | .int _, .str _ => true | .str _, .int _ => true | .bl _, .str _ => true | .str _, .bl _ => true
  | _, _ => false
noncomputable def rEq : R2 := fun x y H Q => scal x y = true ∧ Q (.bl (decide (x = y))) H
noncomputable def rNe : R2 := fun x y H Q => scal x y = true ∧ Q (.bl (!decide (x = y))) H

theorem dec_int {i j : Int} : decide (V.int i = V.int j) = (i == j) := by
  rw [Bool.eq_iff_iff]
  simp
theorem dec_bl {i j : Bool} : decide (V.bl i = V.bl j) = (i == j) := by
  rw [Bool.eq_iff_iff]
  simp
theorem dec_str {i j : Str} : decide (V.str i = V.str j) = (i == j) := by
  rw [Bool.eq_iff_iff]
  simp
theorem dec_byt {i j : Array UInt8} : decide (V.byt i = V.byt j) = (i.toList == j.toList) := by
  rw [Bool.eq_iff_iff]
  cases i
  cases j
  simp

section
variable {X : Cx} {a b c : Expr} {ta tb tc : TE} {pos : Pos}
theorem fin_bl {pins : List (Addr × Obj)} {σ : St} {H : Hp} {s : Shared} {Q : VK} {k k' : Bool} (I : Inv X pins σ H s) (q : Q (.bl k) H) (e : k = k') : EP X pins σ Q (.bool k') s := by
  subst e
  exact ⟨.bl k, H, I, rfl, q⟩
theorem op_eq : OpR X (compareOp .Eq) rEq := by
  intro pins s σ H x y v u Q I rx ry h
  obtain ⟨hs, q⟩ := h
  cases x with
  | non =>
    cases rx
    cases y with
    | non => cases ry; exact PySem.EqNone.eq_none_none (fin_bl I q (by simp))
    | bl j => cases ry; exact PySem.EqNone.eq_none_bool (fin_bl I q (by simp))
    | int j => obtain ⟨t', rfl⟩ := ry; exact PySem.EqNone.eq_none_int (fin_bl I q (by simp))
    | str j => obtain ⟨t', rfl⟩ := ry; exact PySem.EqNone.eq_none_str (fin_bl I q (by simp))
    | _ => exact absurd (show false = true from hs) Bool.false_ne_true
  | bl i =>
    cases rx
    cases y with
    | non => cases ry; exact PySem.EqNone.eq_bool_none (fin_bl I q (by simp))
    | bl j => cases ry; exact eq_bool (fin_bl I q dec_bl)
    | str j => obtain ⟨t', rfl⟩ := ry; exact PySem.EqMixed.eq_bool_str (fin_bl I q (by simp))
    | _ => exact absurd (show false = true from hs) Bool.false_ne_true
  | int i =>
    obtain ⟨t, rfl⟩ := rx
    cases y with
    | non => cases ry; exact PySem.EqNone.eq_int_none (fin_bl I q (by simp))
    | int j => obtain ⟨t', rfl⟩ := ry; exact eq_int (fin_bl I q dec_int)
    | str j => obtain ⟨t', rfl⟩ := ry; exact PySem.EqMixed.eq_int_str (fin_bl I q (by simp))
    | _ => exact absurd (show false = true from hs) Bool.false_ne_true
  | str i =>
    obtain ⟨t, rfl⟩ := rx
    cases y with
    | non => cases ry; exact PySem.EqNone.eq_str_none (fin_bl I q (by simp))
    | bl j => cases ry; exact PySem.EqMixed.eq_str_bool (fin_bl I q (by simp))
    | int j => obtain ⟨t', rfl⟩ := ry; exact PySem.EqMixed.eq_str_int (fin_bl I q (by simp))
    | str j => obtain ⟨t', rfl⟩ := ry; exact eq_str (fin_bl I q dec_str)
    | _ => exact absurd (show false = true from hs) Bool.false_ne_true
  | byt i =>
    obtain ⟨t, rfl⟩ := rx
    cases y with
    | byt j => obtain ⟨t', rfl⟩ := ry; exact PySem.W.eq_bytes (fin_bl I q dec_byt)
    | _ => exact absurd (show false = true from hs) Bool.false_ne_true
  | _ => cases y <;> exact absurd (show false = true from hs) Bool.false_ne_true
theorem op_ne : OpR X (compareOp .NotEq) rNe := by
  intro pins s σ H x y v u Q I rx ry h
  obtain ⟨hs, q⟩ := h
  cases x with
  | non =>
    cases rx
    cases y with
    | non => cases ry; exact PySem.EqNone.ne_none_none (fin_bl I q (by simp))
    | bl j => cases ry; exact PySem.EqNone.ne_none_bool (fin_bl I q (by simp))
    | int j => obtain ⟨t', rfl⟩ := ry; exact PySem.EqNone.ne_none_int (fin_bl I q (by simp))
    | str j => obtain ⟨t', rfl⟩ := ry; exact PySem.EqNone.ne_none_str (fin_bl I q (by simp))
    | _ => exact absurd (show false = true from hs) Bool.false_ne_true
  | bl i =>
    cases rx
    cases y with
    | non => cases ry; exact PySem.EqNone.ne_bool_none (fin_bl I q (by simp))
    | bl j => cases ry; exact ne_bool (fin_bl I q (congrArg not dec_bl))
    | str j => obtain ⟨t', rfl⟩ := ry; exact PySem.EqMixed.ne_bool_str (fin_bl I q (by simp))
    | _ => exact absurd (show false = true from hs) Bool.false_ne_true
  | int i =>
    obtain ⟨t, rfl⟩ := rx
    cases y with
    | non => cases ry; exact PySem.EqNone.ne_int_none (fin_bl I q (by simp))
    | int j => obtain ⟨t', rfl⟩ := ry; exact ne_int (fin_bl I q (congrArg not dec_int))
    | str j => obtain ⟨t', rfl⟩ := ry; exact PySem.EqMixed.ne_int_str (fin_bl I q (by simp))
    | _ => exact absurd (show false = true from hs) Bool.false_ne_true
  | str i =>
    obtain ⟨t, rfl⟩ := rx
    cases y with
    | non => cases ry; exact PySem.EqNone.ne_str_none (fin_bl I q (by simp))
    | bl j => cases ry; exact PySem.EqMixed.ne_str_bool (fin_bl I q (by simp))
    | int j => obtain ⟨t', rfl⟩ := ry; exact PySem.EqMixed.ne_str_int (fin_bl I q (by simp))
    | str j => obtain ⟨t', rfl⟩ := ry; exact ne_str (fin_bl I q (congrArg not dec_str))
    | _ => exact absurd (show false = true from hs) Bool.false_ne_true
  | byt i =>
    obtain ⟨t, rfl⟩ := rx
    cases y with
    | byt j => obtain ⟨t', rfl⟩ := ry; exact PySem.W.ne_bytes (fin_bl I q (congrArg not dec_byt))
    | _ => exact absurd (show false = true from hs) Bool.false_ne_true
  | _ => cases y <;> exact absurd (show false = true from hs) Bool.false_ne_true

theorem op_lt : OpR X (compareOp .Lt) (rI0 fun i j => .bl (decide (i < j))) := opB0 fun _ _ _ _ _ _ _ q => lt_int q
theorem op_le : OpR X (compareOp .LtE) (rI0 fun i j => .bl (decide (i ≤ j))) := opB0 fun _ _ _ _ _ _ _ q => le_int q
theorem op_gt : OpR X (compareOp .Gt) (rI0 fun i j => .bl (decide (j < i))) := opB0 fun _ _ _ _ _ _ _ q => gt_int q
theorem op_ge : OpR X (compareOp .GtE) (rI0 fun i j => .bl (decide (j ≤ i))) := opB0 fun _ _ _ _ _ _ _ q => ge_int q
theorem op_in_str : OpR X (compareOp .In) (fun x y H Q => ∃ i j, x = .str i ∧ y = .str j ∧ Q (.bl (!(Builtin.Str.occurrences j i 0 j.length 1).isEmpty)) H) := by
  intro pins s σ H x y v u Q I rx ry h
  obtain ⟨i, j, rfl, rfl, q⟩ := h
  obtain ⟨t, rfl⟩ := rx
  obtain ⟨t', rfl⟩ := ry
  exact in_str (fin_bl I q rfl)

theorem op_isN : OpR X (compareOp .Is) (fun x y H Q => y = .non ∧ Q (.bl (decide (x = .non))) H) := by
  intro pins s σ H x y v u Q I rx ry h
  obtain ⟨rfl, q⟩ := h
  cases ry
  refine is_none_gen (fin_bl I q ?_)
  cases x <;> first
    | (cases rx; rfl)
    | (obtain ⟨t, rfl⟩ := rx; rfl)
theorem op_notN : OpR X (compareOp .IsNot) (fun x y H Q => y = .non ∧ Q (.bl (!decide (x = .non))) H) := by
  intro pins s σ H x y v u Q I rx ry h
  obtain ⟨rfl, q⟩ := h
  cases ry
  refine isnot_none_gen (fin_bl I q ?_)
  cases x <;> first
    | (cases rx; rfl)
    | (obtain ⟨t, rfl⟩ := rx; rfl)



theorem nomark (b : Expr) {op : CmpOp} (h : op ≠ .In := by decide) (h2 : op ≠ .NotIn := by decide) : behindInMarks op b = false := by
  have e1 : (op == CmpOp.In) = false := by cases op <;> first | rfl | exact absurd rfl h
  have e2 : (op == CmpOp.NotIn) = false := by cases op <;> first | rfl | exact absurd rfl h2
  cases b <;> simp [behindInMarks, e1, e2]
theorem pe_cmpR {op : CmpOp} {r : R2} (ho : OpR X (compareOp op) r) (ha : PE X a ta) (hb : PE X b tb) (hm : behindInMarks op b = false) : PE X (.Compare a [op] [b] pos) (tOp r ta tb) := by
  intro pins s σ H Q I h
  exact wpAny_Compare1 (binT ha hb I h fun v u s2 x y H2 I2 rx ry q => ho pins s2 σ H2 x y v u Q I2 rx ry q) hm
noncomputable def tTest (t : TE) : TT := fun σ H Q => t σ H fun x H' => ∃ k, x = .bl k ∧ Q k H'
theorem pt_cmpR {op : CmpOp} {r : R2} (ho : OpR X (compareOp op) r) (ha : PE X a ta) (hb : PE X b tb) (hm : behindInMarks op b = false) : PT X (.Compare a [op] [b] pos) (tTest (tOp r ta tb)) := by
  intro pins s σ H Q I h
  refine wpAny_isTrue_Compare1 (thn (ha pins s σ H _ I h) fun v s1 ⟨x, H1, I1, r1, q1⟩ => thn (hb pins s1 σ H1 _ I1 q1) fun u s2 ⟨y, H2, I2, r2, q2⟩ =>
    thn (ho pins s2 σ H2 x y v u _ I2 r1 r2 q2) fun c s3 ⟨z, H3, I3, r3, k, e, q3⟩ => ?_) hm
  subst e
  cases r3
  exact wpAny_truthy_bool ⟨H3, I3, q3⟩
noncomputable def tChain (r r' : R2) (ta tb tc : TE) : TE := fun σ H Q => ta σ H fun x H1 => tb σ H1 fun y H2 => r x y H2 fun z H3 => ∃ k, z = .bl k ∧
  (if k = true then tc σ H3 fun w' H4 => r' y w' H4 Q else Q (.bl false) H3)
theorem pe_chain {op op' : CmpOp} {r r' : R2} (ho : OpR X (compareOp op) r) (ho' : OpR X (compareOp op') r') (ha : PE X a ta) (hb : PE X b tb) (hc : PE X c tc)
    (hm : lastMarks [op, op'] [b, c] = false := by with_unfolding_all rfl) : PE X (.Compare a [op, op'] [b, c] pos) (tChain r r' ta tb tc) := by
  intro pins s σ H Q I h
  refine Compare_chain (thn (ha pins s σ H _ I h) fun v s1 ⟨x, H1, I1, r1, q1⟩ => chain_link (thn (hb pins s1 σ H1 _ I1 q1) fun u s2 ⟨y, H2, I2, r2, q2⟩ =>
    thn (ho pins s2 σ H2 x y v u _ I2 r1 r2 q2) fun d s3 ⟨z, H3, I3, r3, k, e, q3⟩ => ?_)) hm
  subst e
  cases r3
  refine wpAny_truthy_bool ?_
  cases k with
  | false => exact ite_ff ⟨.bl false, H3, I3, rfl, q3⟩
  | true => exact ite_tt (chain_last (thn (hc pins s3 σ H3 _ I3 q3) fun w' s4 ⟨z', H4, I4, r4, q4⟩ => ho' pins s4 σ H4 y z' u w' Q I4 r2 r4 q4))
theorem pt_chain {op op' : CmpOp} {r r' : R2} (ho : OpR X (compareOp op) r) (ho' : OpR X (compareOp op') r') (ha : PE X a ta) (hb : PE X b tb) (hc : PE X c tc)
    (hm : lastMarks [op, op'] [b, c] = false := by with_unfolding_all rfl) : PT X (.Compare a [op, op'] [b, c] pos) (tTest (tChain r r' ta tb tc)) := by
  intro pins s σ H Q I h
  refine isTrue_chain (thn (ha pins s σ H _ I h) fun v s1 ⟨x, H1, I1, r1, q1⟩ => test_link (thn (hb pins s1 σ H1 _ I1 q1) fun u s2 ⟨y, H2, I2, r2, q2⟩ =>
    thn (ho pins s2 σ H2 x y v u _ I2 r1 r2 q2) fun d s3 ⟨z, H3, I3, r3, k, e, q3⟩ => ?_)) hm
  subst e
  cases r3
  refine wpAny_truthy_bool ?_
  cases k with
  | false =>
    obtain ⟨k', e', q'⟩ := q3
    cases e'
    exact ite_ff ⟨H3, I3, q'⟩
  | true =>
    refine ite_tt (test_last (thn (hc pins s3 σ H3 _ I3 q3) fun w' s4 ⟨z', H4, I4, r4, q4⟩ => thn (ho' pins s4 σ H4 y z' u w' _ I4 r2 r4 q4) fun d' s5 ⟨z2, H5, I5, r5, k2, e2, q5⟩ => ?_))
    subst e2
    cases r5
    exact wpAny_truthy_bool ⟨H5, I5, q5⟩

theorem line63 : (sizeLine : Nat) < 2 ^ 63 := by rw [sizeLine_eq]; decide

theorem op_add_str : OpR X (binaryOp .Add) (fun x y H Q => ∃ i j, x = .str i ∧ y = .str j ∧ i.length + j.length ≤ sizeLine ∧ Q (.str (i ++ j)) H) := by
  intro pins s σ H x y v u Q I rx ry h
  obtain ⟨i, j, rfl, rfl, hz, q⟩ := h
  obtain ⟨t, rfl⟩ := rx
  obtain ⟨t', rfl⟩ := ry
  exact add_str (fun t' tk => ⟨.str (i ++ j), H, I.tok _, ⟨_, rfl⟩, q⟩) hz


theorem vals1 {x : V} {us : List Value} (r : Vals [x] us) : ∃ u, us = [u] ∧ RelV x u := by
  cases r with
  | cons r1 r2 => cases r2; exact ⟨_, rfl, r1⟩
theorem vals2 {x y : V} {us : List Value} (r : Vals [x, y] us) : ∃ u w', us = [u, w'] ∧ RelV x u ∧ RelV y w' := by
  cases r with
  | cons r1 r2 =>
    cases r2 with
    | cons r3 r4 => cases r4; exact ⟨_, _, rfl, r1, r3⟩
theorem call_max2 (hc : X.calm = true) : CallR X (.builtin "max") (fun xs H Q => ∃ i j, xs = [.int i, .int j] ∧ Q (.int (if j > i then j else i)) H) := by
  intro pins s σ H xs us Q I r h
  obtain ⟨i, j, rfl, q⟩ := h
  obtain ⟨u, w', rfl, ⟨t, rfl⟩, ⟨t', rfl⟩⟩ := vals2 r
  refine max_two_ints (I.ok.hd hc) fun h' tk k => ⟨_, H, I.kept k, ?_, q⟩
  by_cases hj : j > i
  · rw [if_pos hj, if_pos hj]; exact ⟨_, rfl⟩
  · rw [if_neg hj, if_neg hj]; exact ⟨_, rfl⟩
theorem call_min2 (hc : X.calm = true) : CallR X (.builtin "min") (fun xs H Q => ∃ i j, xs = [.int i, .int j] ∧ Q (.int (if j < i then j else i)) H) := by
  intro pins s σ H xs us Q I r h
  obtain ⟨i, j, rfl, q⟩ := h
  obtain ⟨u, w', rfl, ⟨t, rfl⟩, ⟨t', rfl⟩⟩ := vals2 r
  refine min_two_ints (I.ok.hd hc) fun h' tk k => ⟨_, H, I.kept k, ?_, q⟩
  by_cases hj : j < i
  · rw [if_pos hj, if_pos hj]; exact ⟨_, rfl⟩
  · rw [if_neg hj, if_neg hj]; exact ⟨_, rfl⟩
theorem call_int1 : CallR X (.type "int") (fun xs H Q => (∃ i, xs = [.int i] ∧ Q (.int i) H) ∨ ∃ k, xs = [.bl k] ∧ Q (.int (if k then 1 else 0)) H) := by
  intro pins s σ H xs us Q I r h
  rcases h with ⟨i, rfl, q⟩ | ⟨k, rfl, q⟩
  · obtain ⟨u, rfl, t, rfl⟩ := vals1 r
    exact call_int_int ⟨.int i, H, I, ⟨_, rfl⟩, q⟩
  · obtain ⟨u, rfl, r1⟩ := vals1 r
    cases r1
    exact call_int_bool ⟨.int (if k then 1 else 0), H, I.tok _, ⟨_, rfl⟩, q⟩
end
end L2

namespace L2
open PySem PySem.Spec PyProof.Rows

structure ObjM (h : Heap) (x dx C : Addr) (mA : Str → Option Value) : Prop where
  obj : h.get? x = some (PySem.W.instObj C dx)
  ns : h.Ns1 dx mA
  ne : dx ≠ x

theorem lookIn_ns {h : Heap} {dx : Addr} {mA : Str → Option Value} (n : h.Ns1 dx mA) : ∃ od, h.get? dx = some od ∧ ∀ name, PySem.W.lookIn name od = some (mA name) := by
  obtain ⟨o, es, ep, ho, hd, hk, _, hm⟩ := n
  refine ⟨o, ho, fun name => ?_⟩
  have e := hm name
  unfold nsFind findBy at e
  rw [← Array.find?_toList] at e
  unfold PySem.W.lookIn
  rw [hd]
  dsimp only
  split
  · rename_i y q
    rw [q] at e
    exact congrArg some e
  · rename_i q
    rw [q] at e
    have a : es.toList.any (·.refKey) = false := by
      rw [List.any_eq_false]
      intro y hy
      obtain ⟨z, t, hkey⟩ := hk y (Array.mem_toList_iff.mp hy)
      simp [DictEntry.refKey, hkey]
    have a' : ¬ es.toList.any (·.refKey) = true := by rw [a]; exact Bool.false_ne_true
    rw [if_neg a']
    exact congrArg some e

theorem ObjM.look {h : Heap} {x dx C : Addr} {mA : Str → Option Value} (I : ObjM h x dx C mA) : ∃ od, PySem.W.InstAt h x (PySem.W.instObj C dx) C (some od) ∧ ∀ name, PySem.W.lookIn name od = some (mA name) :=
  let ⟨od, ho, hl⟩ := lookIn_ns I.ns
  ⟨od, ⟨I.obj, rfl, rfl, ho⟩, hl⟩

section
variable {prog : Program} {w : World} {A : Around} {E : Value → Shared → Prop} {s : Shared} {K : PySem.W.Frag} {x dx C f : Addr} {mA : Str → Option Value} {name : Str} {v : Value}





end


theorem RelO.some_of {v : V} {o : Option Value} (r : RelO (some v) o) : ∃ u, o = some u ∧ RelV v u := by
  cases o with
  | none => exact (show False from r).elim
  | some u => exact ⟨u, rfl, r⟩

section
variable {P : Program} {w : World} {H H' : Hp} {h h' : Heap} {a C dx : Addr} {fs fs' : List (Str × V)}
theorem ins_get (hok : HOk P w H h) (e : H a = some (.ins C dx fs)) : ∃ mA, ObjM h a dx C mA ∧ (∀ f, RelO (fs.lookup f) (mA f)) ∧ PySem.Within mA (fs.map (·.1)) ∧ fs.length ≤ 1000 ∧ H dx = some (.own a) := by
  obtain ⟨d, z, ne, ob, mA, n, r, q⟩ := (show ObjOk P w H h a (.ins C dx fs) from hok a _ e)
  exact ⟨mA, ⟨ob, n, ne⟩, r, q, z, d⟩
end

structure Cls (K : PySem.W.Frag) (C : Addr) : Prop where
  pg : PySem.W.plainGet K C Str.empty = true
  hd : PySem.W.hasDictIn K C = true
  po : PySem.W.plainOver K C = true
  sa : PySem.W.findIn K (.ref C) "__setattr__" = some (some (.builtin "object.__setattr__"))
theorem Cls.get {K : PySem.W.Frag} {C : Addr} (c : Cls K C) (f : Str) : PySem.W.plainGet K C f = true := c.pg
structure Con (K : PySem.W.Frag) (C : Addr) (f : Str) (v : V) (u : Value) : Prop where
  at_ : PySem.W.findIn K (.ref C) f = some (some u)
  rel : RelV v u
  get : PySem.W.specialIn K u "__get__" = some none
  cp : PySem.W.copiedNames.contains f = false
structure Meth (K : PySem.W.Frag) (C : Addr) (m : Str) (f : Addr) : Prop where
  at_ : PySem.W.findIn K (.ref C) m = some (some (.ref f))
  fn : PySem.W.isFn K (.ref f) = true
  kp : PySem.W.keepIn K (.ref f) = true

section
variable {X : Cx} {pins : List (Addr × Obj)} {σ : St} {H : Hp} {s : Shared} {a C dx : Addr} {fs : List (Str × V)} {f : Str} {v : V} {A : Around} {E : Value → Shared → Prop}






end


section
variable {X : Cx} {o e value : Expr} {f : Str} {pos pos' tpos : Pos} {ta tv : TE}

end

section
variable {X : Cx} {pins : List (Addr × Obj)} {σ : St} {H : Hp} {s : Shared} {A : Around} {E : Value → Shared → Prop} {Q : Value → Shared → Prop} {c : Value} {b : Bool}
inductive TyOf (K : PySem.W.Frag) (H : Hp) : V → Value → Prop where
  | non : TyOf K H .non (.type "NoneType")
  | bl (x : Bool) : TyOf K H (.bl x) (.type "bool")
  | int (i : Int) : TyOf K H (.int i) (.type "int")
  | str (x : Str) : TyOf K H (.str x) (.type "str")
  | flt (x : UInt64) : TyOf K H (.flt x) (.type "float")
  | lst {a : Addr} {xs : List V} (e : H a = some (.lst xs)) : TyOf K H (.ref a) (.type "list")
  | frz {a : Addr} {o : Obj} {xs : List V} (e : H a = some (.frz o (.lst xs))) : TyOf K H (.ref a) (.type "list")
  | tup {a : Addr} {xs : List V} (e : H a = some (.tup xs)) : TyOf K H (.ref a) (.type "tuple")
  | dK {a : Addr} {kvs : List (Key × V)} (e : H a = some (.dK kvs)) : TyOf K H (.ref a) (.type "dict")
  | dT {a : Addr} {kvs : List (List Key × V)} (e : H a = some (.dT kvs)) : TyOf K H (.ref a) (.type "dict")
  | ins {a C dx : Addr} {fs : List (Str × V)} (e : H a = some (.ins C dx fs)) (cl : Cls K C) (ha : PySem.W.findIn K (.ref C) "__class__" = some (some (.builtin "object.__class__")))
      (hn : PySem.W.specialIn K (.builtin "object.__class__") "__get__" = some (some (.builtin "getset_descriptor.__get__"))) (htk : PySem.W.takesIn K (.builtin "object.__class__") = some true)
      (hm : PySem.W.mroIn K C (.type "object") = some true) : TyOf K H (.ref a) (.ref C)
theorem isinst_ok {x : V} {u t : Value} (I : Inv X pins σ H s) (rx : RelV x u) (ty : TyOf X.K H x t) (e : PySem.W.kitOne X.K t c = some b) (h : ∀ tk, Q (.bool b) { s with toks := tk }) :
    wpAny (model X.prog X.w) A (call (.builtin "isinstance") [u, c]) Q E s := by
  cases ty with
  | non => cases (show u = Value.none from rx); exact PySem.W.kia_one PySem.W.kitx_none I.kIn True.intro e (fun z => nomatch z) h
  | bl y => cases (show u = Value.bool y from rx); exact PySem.W.kia_one PySem.W.kitx_bool I.kIn True.intro e (fun z => nomatch z) h
  | int i => obtain ⟨t, q⟩ := (show ∃ t, u = Value.int i t from rx); cases q; exact PySem.W.kia_one PySem.W.kitx_int I.kIn True.intro e (fun z => nomatch z) h
  | str y => obtain ⟨t, q⟩ := (show ∃ t, u = Value.str y t from rx); cases q; exact PySem.W.kia_one PySem.W.kitx_str I.kIn True.intro e (fun z => nomatch z) h
  | flt y => obtain ⟨t, q⟩ := (show ∃ t, u = Value.float y t from rx); cases q; exact PySem.W.kia_one PySem.W.kitx_float I.kIn True.intro e (fun z => nomatch z) h
  | @lst a xs ea =>
    cases (show u = Value.ref a from rx)
    obtain ⟨_, _, n, _, h1⟩ := (show ObjOk X.prog X.w H s.heap a (.lst xs) from I.hok a _ ea)
    exact PySem.W.kia_one PySem.W.kitx_list I.kIn ⟨_, h1, rfl⟩ e (fun z => nomatch z) h
  | @frz a ob xs ea =>
    cases (show u = Value.ref a from rx)
    obtain ⟨_, _, _, n, _, h1⟩ := (show ObjOk X.prog X.w H s.heap a (.frz ob (.lst xs)) from I.hok a _ ea)
    exact PySem.W.kia_one PySem.W.kitx_list I.kIn ⟨_, h1, rfl⟩ e (fun z => nomatch z) h
  | @tup a xs ea =>
    cases (show u = Value.ref a from rx)
    obtain ⟨_, _, _, p⟩ := (show ObjOk X.prog X.w H s.heap a (.tup xs) from I.hok a _ ea)
    obtain ⟨o, h1, h2, _⟩ := p
    exact PySem.W.kia_one PySem.W.kitx_tuple I.kIn ⟨o, h1, h2⟩ e (fun z => nomatch z) h
  | @dK a kvs ea =>
    cases (show u = Value.ref a from rx)
    obtain ⟨_, _, vs, _, p⟩ := (show ObjOk X.prog X.w H s.heap a (.dK kvs) from I.hok a _ ea)
    obtain ⟨o, es, ep, h1, h2, _⟩ := p
    exact PySem.W.kia_one PySem.W.kitx_dict I.kIn ⟨o, h1, h2.1⟩ e (fun z => nomatch z) h
  | @dT a kvs ea =>
    cases (show u = Value.ref a from rx)
    obtain ⟨_, _, xs, _, o, es, ep, h1, h2, _⟩ := (show ObjOk X.prog X.w H s.heap a (.dT kvs) from I.hok a _ ea)
    exact PySem.W.kia_one PySem.W.kitx_dict I.kIn ⟨o, h1, h2.1⟩ e (fun z => nomatch z) h
  | @ins a C dx fs ea cl ha hn htk hm =>
    cases (show u = Value.ref a from rx)
    obtain ⟨mA, O, _⟩ := ins_get I.hok ea
    obtain ⟨od, J, _⟩ := O.look
    exact PySem.W.kia_one (PySem.W.kitx_own (cl.get _) cl.hd ha hn htk hm) I.kIn J e (fun z => nomatch z) h
end
end L2

namespace L2
open PySem PySem.Spec PyProof.Rows

structure Room (k : Nat) (A : Around) : Prop where
  hd : A.handled = none
  dp : A.depth + 3 * k + 5 < recursionLimit
  un : A.units + 16 * k + 200 < cLine
theorem Room.mono {j k : Nat} {A : Around} (r : Room k A) (h : j ≤ k) : Room j A := ⟨r.hd, by have := r.dp; omega, by have := r.un; omega⟩
theorem Room.deeper {k : Nat} {A : Around} (r : Room (k + 1) A) (env : Env) : Room k (A.deeper env) :=
  ⟨r.hd, by have := r.dp; show A.depth + 1 + 3 * k + 5 < _; omega, by have := r.un; show A.units + 3 + 16 * k + 200 < _; omega⟩
theorem Room.depth {k : Nat} {A : Around} (r : Room k A) : A.depth < recursionLimit := by have := r.dp; omega
theorem Room.units {k : Nat} {A : Around} (r : Room k A) : A.units + 64 < cLine := by have := r.un; omega

noncomputable def tNil : TA := fun _ H Q => Q [] H
noncomputable def tCons (ta : TE) (tr : TA) : TA := fun σ H Q => ta σ H fun x H1 => tr σ H1 fun xs H2 => Q (x :: xs) H2
section
variable {X : Cx} {e : Expr} {es : List Expr} {te : TE} {t : TA} {pos : Pos}
theorem pa_nil : PA X [] tNil := fun _ _ _ _ H Q I h => Calls.spliced_nil ⟨[], H, I, .nil, h⟩
theorem pa_cons (ha : PE X e te) (hr : PA X es t) (hs : starEach (e :: es) X.env = (false, eval e X.env) :: starEach es X.env := by rfl) : PA X (e :: es) (tCons te t) := by
  intro pos pins s σ H Q I h
  rw [hs]
  show wpAny _ _ (spliced ((false, eval e X.env) :: backTo pos (starEach es X.env))) _ _ s
  refine Calls.spliced_cons (thn (ha pins s σ H _ I h) fun u s1 ⟨x, H1, I1, r1, q1⟩ => ?_)
  exact thn (hr pos pins s1 σ H1 _ I1 q1) fun us s2 ⟨xs, H2, I2, r2, q2⟩ => ⟨x :: xs, H2, I2, .cons r1 r2, q2⟩

noncomputable def tTup (t : TA) : TE := fun σ H Q => t σ H fun xs H1 => xs.length ≤ sizeLine ∧ ∀ p, H1 p = none → Q (.ref p) (upd H1 p (.tup xs))
noncomputable def tLst (t : TA) : TE := fun σ H Q => t σ H fun xs H1 => xs.length ≤ sizeLine ∧ ∀ p, H1 p = none → Q (.ref p) (upd H1 p (.lst xs))
theorem pe_tup {x1} (h : PA X es t) : PE X (.Tuple es x1 pos) (tTup t) := by
  intro pins s σ H Q I hq
  refine wpAny_Tuple_spliced (thn (h pos pins s σ H _ I hq) fun us s1 ⟨xs, H1, I1, r, z, q⟩ => ⟨by rw [← r.length]; exact z, ?_⟩)
  have hf : H1 s1.heap.objs.size = none := I1.hok.fresh (Nat.le_refl _)
  refine ⟨.ref s1.heap.objs.size, upd H1 s1.heap.objs.size (.tup xs), I1.laid (t' := s1.toks) (fun b u e => Heap.get?_push_of_some _ e) (Nat.le_refl _) ?_, rfl, q _ hf⟩
  exact ⟨z, us, r, ⟨_, Heap.get?_push_size _ rfl, rfl, _, rfl⟩⟩
theorem pe_lst (h : PA X es t) : PE X (.List es pos) (tLst t) := by
  intro pins s σ H Q I hq
  refine wpAny_List_spliced (thn (h pos pins s σ H _ I hq) fun us s1 ⟨xs, H1, I1, r, z, q⟩ => ⟨by rw [← r.length]; exact z, ?_⟩)
  have hf : H1 s1.heap.objs.size = none := I1.hok.fresh (Nat.le_refl _)
  refine ⟨.ref s1.heap.objs.size, upd H1 s1.heap.objs.size (.lst xs), I1.laid (t' := s1.toks) (fun b u e => Heap.get?_push_of_some _ e) (Nat.le_refl _) ?_, rfl, q _ hf⟩
  exact ⟨z, us, 0, r, Heap.get?_push_size _ rfl⟩
end

abbrev Sp := List V → Hp → VK → XK → Prop
abbrev CXT := List Env → Hp → Shared → XK → Value → Shared → Prop

structure Env0 (P : Program) (w : World) (K : PySem.W.Frag) (mg : Str → Option Value) (base : Heap) (A : Around) (outer : List Env) (s : Shared) (H : Hp) : Prop where
  frames : A.frames = some outer
  mod : Mod K mg base
  bs : ∀ b o, base.get? b = some o → s.heap.get? b = some o ∧ H b = none
  bsz : base.objs.size ≤ s.heap.objs.size
  funs : s.heap.FunFrames base outer
  frf : ∀ b ∈ frs outer, H b = none
  hok : HOk P w H s.heap
  bare : AllBare s.gens
noncomputable def CE (outer : List Env) (P : Program) (w : World) (H : Hp) (s : Shared) (Q : VK) (u : Value) (s' : Shared) : Prop :=
  ∃ v H', s'.os = s.os ∧ AllBare s'.gens ∧ Un (frs outer) [] H H' s.heap s'.heap ∧ HOk P w H' s'.heap ∧ RelV v u ∧ Q v H'
noncomputable def CR (CX : CXT) (outer : List Env) (P : Program) (w : World) (H : Hp) (s : Shared) (Q : VK) (E : XK) (r : Result) (s' : Shared) : Prop :=
  match r with
  | .ok (.ret u) => CE outer P w H s Q u s'
  | .ok _ => False
  | .error e => CX outer H s E e s'
structure FnOk (P : Program) (w : World) (K : PySem.W.Frag) (mg : Str → Option Value) (base : Heap) (CX : CXT) (k : Nat) (f : Addr) (fd : FuncData) (ps : List Str) (sp : Sp) : Prop where
  len : ∀ vs H Q E, sp vs H Q E → vs.length = ps.length
  run : ∀ (A : Around) (outer : List Env) (s : Shared) (H : Hp) (args : Args) (us : List Value) (vs : List V) (Q : VK) (E : XK), Room k A → Env0 P w K mg base A outer s H → BindsTo s fd args (ps.zip us) → Vals vs us → sp vs H Q E →
    codeAny (model P w) A (.call (.ref f) args) (CR CX outer P w H s Q E) s


section
variable {X : Cx} {pins : List (Addr × Obj)} {σ : St} {H : Hp} {s s' : Shared}
theorem Inv.env0 (I : Inv X pins σ H s) : Env0 X.prog X.w X.K X.mg X.base X.A X.stack s H :=
  ⟨I.ok.frames, I.ok.mod, I.bs, Nat.le_trans I.ok.bsz I.sz, I.stack, I.stkFree, I.hok, I.bare⟩
theorem Inv.after {Q : VK} {u : Value} (I : Inv X pins σ H s) (h : CE X.stack X.prog X.w H s Q u s') : EP X pins σ Q u s' := by
  obtain ⟨v, H', os, bare, un, hok, r, q⟩ := h
  obtain ⟨hh, g, d, t, os'⟩ := s'
  obtain rfl : os' = s.os := os
  exact ⟨v, H', I.call (h' := hh) (g' := g) (d' := d) (t' := t) (ch := []) un hok bare (fun b z => absurd z (by simp)), r, q⟩
end

noncomputable def tCall (sp : Sp) (dvs : List V) (E : XK) (t : TA) : TE := fun σ H Q => t σ H fun vs H1 => sp (vs ++ dvs) H1 Q E

noncomputable def Binds (K : PySem.W.Frag) (fd : FuncData) (ps : List Str) (ds : List Value) : Prop :=
  ∀ (s : Shared) (us : List Value), K.In s.heap → (us ++ ds).length = ps.length → BindsTo s fd ⟨us, []⟩ (ps.zip (us ++ ds))
theorem Binds.all {K : PySem.W.Frag} {fd : FuncData} {ps : List Str} (h : ∀ us : List Value, us.length = ps.length → bindArgs fd ⟨us, []⟩ = pure (ps.zip us)) : Binds K fd ps [] := fun s us _ hl => by
  rw [List.append_nil] at hl ⊢
  exact .of_eq (h us hl)

noncomputable def Passes (CX : CXT) (X : Cx) (E : XK) : Prop := ∀ (pins : List (Addr × Obj)) (σ : St) (H : Hp) (s : Shared) (e : Value) (s' : Shared), Inv X pins σ H s → CX X.stack H s E e s' → X.xe e s'

section
variable {X : Cx} {CX : CXT} {k : Nat} {f C : Addr} {fd : FuncData} {ps : List Str} {sp : Sp} {dvs : List V} {ds : List Value} {E : XK} {x m : Str} {p pos apos : Pos} {e o : Expr} {es : List Expr} {ta : TE} {t : TA}

theorem run_fn {pins : List (Addr × Obj)} {σ : St} {H : Hp} {s : Shared} {Q : VK} {us : List Value} {vs : List V} (F : FnOk X.prog X.w X.K X.mg X.base CX k f fd ps sp) (hr : Room k X.A) (hb : Binds X.K fd ps ds) (hd : Vals dvs ds) (hx : Passes CX X E)
    (I : Inv X pins σ H s) (r : Vals vs us) (h : sp (vs ++ dvs) H Q E) : wpAny (model X.prog X.w) X.A (call (.ref f) us) (EP X pins σ Q) X.xe s := by
  have r2 : Vals (vs ++ dvs) (us ++ ds) := r.append hd
  have hl : (us ++ ds).length = ps.length := by rw [← r2.length]; exact F.len _ _ _ _ h
  refine wpAny_call (codeAny_mono (F.run X.A X.stack s H ⟨us, []⟩ (us ++ ds) (vs ++ dvs) Q E hr I.env0 (hb s us I.kIn hl) r2 h) fun r s' hq => ?_)
  cases r with
  | error e => exact hx pins σ H s e s' I hq
  | ok fl =>
    cases fl with
    | ret u => exact I.after hq
    | next => exact False.elim hq
    | brk => exact False.elim hq
    | cont => exact False.elim hq

theorem pe_call (F : FnOk X.prog X.w X.K X.mg X.base CX k f fd ps sp) (hr : Room k X.A) (hg : Gl X x) (hm : X.mg x = some (.ref f)) (hk : PySem.W.keepIn X.K (.ref f) = true) (hb : Binds X.K fd ps ds) (hd : Vals dvs ds) (hx : Passes CX X E)
    (ha : PA X (e :: es) t) (hdb : (x == ("__debug__" : Str)) = false := by decide) (he : starEach (e :: es) X.env = (false, eval e X.env) :: starEach es X.env := by rfl) (hpl : (backTo pos (starEach es X.env)).any (·.1) = false := by rfl) :
    PE X (.Call (.Name x p) (e :: es) [] pos) (tCall sp dvs E t) := by
  intro pins s σ H Q I h
  refine wpAny_Call_Name_kw (ld_glob I hg hm ?_ hdb)
  refine PySem.W.callWith_K (h₀ := X.base) I.ok.mod.kin hk (thn (ha pos pins s σ H _ I h) fun us s1 ⟨vs, H1, I1, r, q⟩ => ⟨I1.kIn, ?_⟩) he hpl
  exact run_fn F hr hb hd hx I1 r q


structure Mk (K : PySem.W.Frag) (C f : Addr) : Prop where
  makes : PySem.W.makesIn K C = true
  init : PySem.W.findIn K (.ref C) "__init__" = some (some (.ref f))
  fn : PySem.W.isFn K (.ref f) = true
  kp : PySem.W.keepIn K (.ref C) = true

end

section
variable {X : Cx} {CX : CXT} {k : Nat} {f C : Addr} {fd : FuncData} {ps ks : List Str} {sp : Sp} {E : XK} {x m : Str} {p pos apos kpos : Pos} {e o : Expr} {es : List Expr} {kws : List Keyword} {te ta : TE} {t tk : TA} {nm : Option Str}

structure KBinds (K : PySem.W.Frag) (fd : FuncData) (ps ks : List Str) (g : List Value → List Value → List Value) (gV : List V → List V → List V) : Prop where
  to : ∀ (s : Shared) (us ws : List Value), K.In s.heap → (g us ws).length = ps.length → BindsTo s fd ⟨us, ks.zip ws⟩ (ps.zip (g us ws))
  rel : ∀ {vs : List V} {us : List Value} {zs : List V} {ws : List Value}, Vals vs us → Vals zs ws → Vals (gV vs zs) (g us ws)
variable {g : List Value → List Value → List Value} {gV : List V → List V → List V}
end

structure FnScope (N P : List Str) (sc : Scope) : Prop where
  kind : sc.kind = .function
  co : sc.isCoroutine = false
  gen : sc.isGenerator = false
  nd : N.Nodup
  pre : N.take P.length = P
  par : ∀ x ∈ P, sc.names.lookup x = some .local ∨ sc.names.lookup x = some .cell
  nofree : ∀ y ∈ sc.names, y.2 ≠ .free

theorem bindL_out {kindOf : Str → Option NameKind} {x : Str} : ∀ {binds : List (Str × Value)} {m : Str → Option Value}, (∀ v, (x, v) ∉ binds) → bindL kindOf binds m x = m x
  | [], _, _ => rfl
  | (n, v) :: r, m, h => by
    unfold bindL
    rw [bindL_out fun w hw => h w (List.mem_cons_of_mem _ hw)]
    split
    · have : x ≠ n := by rintro rfl; exact h v List.mem_cons_self
      simp [this]
    · rfl
theorem bindC_out {kindOf : Str → Option NameKind} {x : Str} : ∀ {binds : List (Str × Value)} {m : Str → Option Value}, (∀ v, (x, v) ∉ binds) → bindC kindOf binds m x = m x
  | [], _, _ => rfl
  | (n, v) :: r, m, h => by
    unfold bindC
    rw [bindC_out fun w hw => h w (List.mem_cons_of_mem _ hw)]
    split
    · rfl
    · have : x ≠ n := by rintro rfl; exact h v List.mem_cons_self
      simp [this]
theorem bindL_get {kindOf : Str → Option NameKind} {x : Str} {v : Value} : ∀ {P : List Str} {vs : List Value} {i : Nat} {m : Str → Option Value}, P.Nodup → P[i]? = some x → vs[i]? = some v → kindOf x = some .local →
    bindL kindOf (P.zip vs) m x = some v
  | [], _, _, _, _, h, _, _ => by simp at h
  | _ :: _, [], _, _, _, _, h, _ => by simp at h
  | p :: P, w :: vs, 0, m, nd, h1, h2, hk => by
    simp at h1 h2; subst h1; subst h2
    show bindL kindOf ((p, w) :: P.zip vs) m p = _
    unfold bindL
    rw [bindL_out fun v hv => (List.nodup_cons.mp nd).1 (List.of_mem_zip hv).1, if_pos hk]
    simp
  | p :: P, w :: vs, i + 1, m, nd, h1, h2, hk => by
    show bindL kindOf ((p, w) :: P.zip vs) m x = _
    unfold bindL
    exact bindL_get (i := i) (List.nodup_cons.mp nd).2 (by simpa using h1) (by simpa using h2) hk
theorem bindC_get {kindOf : Str → Option NameKind} {x : Str} {v : Value} : ∀ {P : List Str} {vs : List Value} {i : Nat} {m : Str → Option Value}, P.Nodup → P[i]? = some x → vs[i]? = some v → kindOf x ≠ some .local →
    bindC kindOf (P.zip vs) m x = some v
  | [], _, _, _, _, h, _, _ => by simp at h
  | _ :: _, [], _, _, _, _, h, _ => by simp at h
  | p :: P, w :: vs, 0, m, nd, h1, h2, hk => by
    simp at h1 h2; subst h1; subst h2
    show bindC kindOf ((p, w) :: P.zip vs) m p = _
    unfold bindC
    rw [bindC_out fun v hv => (List.nodup_cons.mp nd).1 (List.of_mem_zip hv).1, if_neg hk]
    simp
  | p :: P, w :: vs, i + 1, m, nd, h1, h2, hk => by
    show bindC kindOf ((p, w) :: P.zip vs) m x = _
    unfold bindC
    exact bindC_get (i := i) (List.nodup_cons.mp nd).2 (by simpa using h1) (by simpa using h2) hk

noncomputable def start (N : List Str) (vs : List V) : St := vs.map some ++ List.replicate (N.length - vs.length) none

noncomputable def cxOf (CX : CXT) (P : Program) (w : World) (K : PySem.W.Frag) (mg : Str → Option Value) (base : Heap) (N : List Str) (qual : Str) (scope : Scope) (f : Addr) (cd : Value) (A : Around) (outer : List Env) (s : Shared) (H : Hp) (E : XK) : Cx where
  prog := P
  w := w
  K := K
  mg := mg
  base := base
  A := A.deeper (envOfC qual scope s.heap.objs.size f cd)
  N := N
  s₀ := s
  H₀ := H
  env := envOfC qual scope s.heap.objs.size f cd
  outer := outer
  stack := envOfC qual scope s.heap.objs.size f cd :: outer
  ex := []
  calm := true
  fn := fun _ => true
  pn := []
  xe := fun e s' => wpAny (model P w) (A.deeper (envOfC qual scope s.heap.objs.size f cd)) (leaving (envOfC qual scope s.heap.objs.size f cd) e) (fun _ s'' => CX outer H s E e s'') (fun e' s'' => CX outer H s E e' s'') s'

theorem cell_has {sc : Scope} {n : Nat} {x : Str} (h : sc.names.lookup x = some .cell) : ∃ c, (cellsFrom n sc.names []).lookup x = some c := by
  have q := PySem.W.cellsFrom_some sc.names n [] (.inl h)
  exact Option.isSome_iff_exists.mp q

theorem inv_start {CX : CXT} {P : Program} {w : World} {K : PySem.W.Frag} {mg : Str → Option Value} {base : Heap} {N ps : List Str} {qual : Str} {scope : Scope} {f : Addr} {cd : Value} {A : Around} {outer : List Env} {s s1 : Shared} {H : Hp} {E : XK} {us : List Value} {vs : List V}
    (S : FnScope N ps scope) (hd : A.handled = none) (e0 : Env0 P w K mg base A outer s H) (hl : vs.length = ps.length) (r : Vals vs us)
    (x : InCallC s s.heap.objs.size (bindL (envOfC qual scope s.heap.objs.size f cd).kindOf (ps.zip us) fun _ => none) (cellsFrom (s.heap.objs.size + 1) scope.names []) (bindC (envOfC qual scope s.heap.objs.size f cd).kindOf (ps.zip us) fun _ => none) s1) :
    Inv (cxOf CX P w K mg base N qual scope f cd A outer s H E) [] (start N vs) H s1 := by
  have hpl : ps.length ≤ N.length := by have := congrArg List.length S.pre; rw [List.length_take] at this; omega
  obtain ⟨h1, tk, rfl, hk⟩ := x.done
  have noA : ∀ b : Addr, b ∉ (cxOf CX P w K mg base N qual scope f cd A outer s H E).ex := fun b z => absurd (show b ∈ ([] : List Addr) from z) (by simp)
  refine ⟨⟨e0.mod, S.kind, rfl, rfl, Nat.le_refl _, fun y z c h1 h2 => ?_, fun y hy => ?_, fun y c _ h => ?_, fun _ => hd, Around.frames_deeper e0.frames, .inr ⟨rfl, rfl⟩, fun b z => absurd z (noA b), e0.bs, e0.bsz, fun b _ _ => noA b, fun b z => absurd z (noA b), e0.funs, e0.frf⟩,
    rfl, e0.bare, Un.kept hk, ⟨_, x.toInCall.ns, fun i y v h1 h2 h3 => ?_⟩, fun y c h => ⟨_, x.cell y c h⟩, e0.hok.fresh (Nat.le_refl _), fun y c h => ?_, fun p hp => absurd (show p ∈ ([] : List (Addr × Obj)) from hp) (by simp), e0.hok.kept hk, ?_⟩
  · exact name_of_addr x.apart (PySem.mem_of_lookup h1) (PySem.mem_of_lookup h2)
  · have hy : scope.names.lookup y = some .cell ∨ scope.names.lookup y = some .free := hy
    rcases hy with hy | hy
    · exact cell_has hy
    · exact absurd rfl (S.nofree _ (PySem.mem_of_lookup hy))
  · exact Nat.le_of_lt (x.above y c (PySem.mem_of_lookup h))
  · have hi : i < vs.length := by
      unfold start at h2
      by_cases hi : i < vs.length
      · exact hi
      · rw [List.getElem?_append_right (by simpa using hi)] at h2
        rw [List.getElem?_replicate] at h2
        split at h2 <;> cases h2
    have ha : vs[i]? = some v := by
      unfold start at h2
      rw [List.getElem?_append_left (by simpa using hi), List.getElem?_map] at h2
      cases e : vs[i]? with
      | none => rw [e] at h2; cases h2
      | some a => rw [e] at h2; cases h2; rfl
    obtain ⟨u, hu, rv⟩ := r.get ha
    have hp : ps[i]? = some y := by
      rw [← S.pre, List.getElem?_take_of_lt (by omega)]; exact h1
    have ndP : ps.Nodup := by rw [← S.pre]; exact S.nd.sublist (List.take_sublist _ _)
    refine ⟨u, rv, ?_⟩
    rcases S.par y (List.mem_of_getElem? hp) with k | k
    · exact .inl ⟨k, bindL_get ndP hp hu k⟩
    · obtain ⟨c, e⟩ := cell_has (n := s.heap.objs.size + 1) k
      refine .inr ⟨.inl k, c, e, ?_⟩
      have q := x.cell y c e
      rw [bindC_get ndP hp hu (by show scope.names.lookup y ≠ _; rw [k]; decide)] at q
      exact q
  · exact e0.hok.fresh (Nat.le_of_lt (x.above y c (PySem.mem_of_lookup h)))
  · unfold start
    show _ = N.length
    rw [List.length_append, List.length_map, List.length_replicate]
    omega

theorem fn_of {CX : CXT} {P : Program} {w : World} {K : PySem.W.Frag} {mg : Str → Option Value} {base : Heap} {k : Nat} {f : Addr} {name qual : Str} {params : Arguments} {body : List Stmt} {scope : Scope} {dV kV doc pm cdv ct oc : Value} {an od : Option Addr}
    {osl : Array (Option Value)} {N ps : List Str} {sp : Sp} (lk : K.lookup f = some ⟨oc, od, .func (PySem.W.fnOf name qual params body scope dV kV doc pm an cdv ct), osl⟩) (hcd : PySem.W.codeIn K cdv qual = true) (S : FnScope N ps scope)
    (len : ∀ vs H Q E, sp vs H Q E → vs.length = ps.length)
    (hbody : ∀ (A : Around) (outer : List Env) (s : Shared) (H : Hp) (vs : List V) (Q : VK) (E : XK), Room k (A.deeper (envOfC qual scope s.heap.objs.size f cdv)) → sp vs H Q E →
      ∃ t, PSs (cxOf CX P w K mg base N qual scope f cdv A outer s H E) body t ∧ t { nx := fun _ H' => Q .non H', rt := Q } (start N vs) H) :
    FnOk P w K mg base CX (k + 1) f (PySem.W.fnOf name qual params body scope dV kV doc pm an cdv ct) ps sp := by
  refine ⟨len, fun A outer s H args us vs Q E hr e0 hb r hsp => ?_⟩
  have hl := len _ _ _ _ hsp
  have KX : K.In s.heap := e0.mod.kin.keeps fun b o e => (e0.bs b o e).1
  have lim : s.heap.NoLimit := e0.mod.nolimit.keeps fun b o e => (e0.bs b o e).1
  have hkind : ∀ y ∈ ps.zip us, scope.names.lookup y.1 = some .local ∨ (scope.names.lookup y.1 = some .cell ∧ ((cellsFrom (s.heap.objs.size + 1) scope.names []).lookup y.1).isSome = true) := fun ⟨n, v⟩ hy => by
    rcases S.par n (List.of_mem_zip hy).1 with q | q
    · exact .inl q
    · exact .inr ⟨q, PySem.W.cellsFrom_some _ _ _ (.inl q)⟩
  refine codeAny_call_function hr.depth (KX _ _ lk) rfl S.co S.gen rfl (PySem.W.codeRec_of KX hcd) (hb _ _ _ _ ?_)
  refine wpAny_newFunctionEnv_cells S.kind hkind fun env he s1 x => ?_
  subst he
  refine ⟨lim.keeps x.toInCall.keep, codeAny_func ?_⟩
  obtain ⟨t, ht, hq⟩ := hbody A outer s H vs Q E (hr.deeper _) hsp
  have I : Inv (cxOf CX P w K mg base N qual scope f cdv A outer s H E) [] (start N vs) H s1 := inv_start S hr.hd e0 hl r x
  refine wpAny_mono (ht [] s1 (start N vs) H _ I hq) (fun fl s' hs => ?_) fun e s' hs => hs
  have fin : ∀ {σ' : St} {H' : Hp} {v : V} {u : Value}, Inv (cxOf CX P w K mg base N qual scope f cdv A outer s H E) [] σ' H' s' → RelV v u → Q v H' → CE outer P w H s Q u s' :=
    fun {σ' H' v u} J rv q => ⟨v, H', J.os, J.bare, J.base, J.hok, rv, q⟩
  cases fl with
  | ret u =>
    obtain ⟨v, σ', H', J, rv, q⟩ := hs
    exact fin J rv q
  | next =>
    obtain ⟨σ', H', J, q⟩ := hs
    exact fin (v := V.non) (u := Value.none) J rfl q
  | brk =>
    obtain ⟨_, _, _, q⟩ := hs
    exact False.elim q
  | cont =>
    obtain ⟨_, _, _, q⟩ := hs
    exact False.elim q
end L2

namespace L2
open PySem PySem.Spec PyProof.Rows
section
variable {X : Cx} {x : Str} {p pos : Pos} {e : Expr} {es : List Expr} {t : TA} {id T : String} {r : List V → Hp → VK → Prop}

noncomputable def tCB (r : List V → Hp → VK → Prop) (t : TA) : TE := fun σ H Q => t σ H fun vs H1 => r vs H1 Q
theorem pe_callB (hc : CallR X (.builtin id) r) (hg : Gl X x) (hm : X.mg x = none) (hv : bootBuiltins x = some (.builtin id)) (ha : PA X (e :: es) t) (hn : x ≠ "__name__" := by decide) (hdb : (x == ("__debug__" : Str)) = false := by decide)
    (he : starEach (e :: es) X.env = (false, eval e X.env) :: starEach es X.env := by rfl) (hpl : (backTo pos (starEach es X.env)).any (·.1) = false := by rfl) : PE X (.Call (.Name x p) (e :: es) [] pos) (tCB r t) := by
  intro pins s σ H Q I h
  refine wpAny_Call_Name_kw (ld_blt I hg hm hv ?_ hn hdb)
  exact PyProof.Rows.callWith_builtin1 (thn (ha pos pins s σ H _ I h) fun us s1 ⟨vs, H1, I1, r1, q1⟩ => hc pins s1 σ H1 vs us Q I1 r1 q1) he hpl
theorem pe_callTy (hc : CallR X (.type T) r) (hg : Gl X x) (hm : X.mg x = none) (hv : bootBuiltins x = some (.type T)) (ha : PA X (e :: es) t) (hn : x ≠ "__name__" := by decide) (hdb : (x == ("__debug__" : Str)) = false := by decide)
    (he : starEach (e :: es) X.env = (false, eval e X.env) :: starEach es X.env := by rfl) (hpl : (backTo pos (starEach es X.env)).any (·.1) = false := by rfl) : PE X (.Call (.Name x p) (e :: es) [] pos) (tCB r t) := by
  intro pins s σ H Q I h
  refine wpAny_Call_Name_kw (ld_blt I hg hm hv ?_ hn hdb)
  exact PyProof.Rows.callWith_type1 (thn (ha pos pins s σ H _ I h) fun us s1 ⟨vs, H1, I1, r1, q1⟩ => hc pins s1 σ H1 vs us Q I1 r1 q1) he hpl
end
end L2

namespace HT
open PySem PyProof.Rows



section
open PySem.SeqAt
open PySem.AutoSeq1 (wpAny_loadPart')
open PySem.MeetsSeq PySem.MeetsSeq2 PySem.MeetsSeq3

end

section
variable {prog : Program} {w : World} {A : Around} {E : Value → Shared → Prop} {s : Shared}



noncomputable def sIx (n d : Nat) : Option Int → Nat
  | none => d
  | some v => if v < 0 then (v + (n : Int)).toNat else min v.toNat n
theorem sIx_none (n d : Nat) : sIx n d none = d := rfl
theorem sIx_nat (n d k : Nat) : sIx n d (some (k : Int)) = min k n := by
  show (if (k : Int) < 0 then ((k : Int) + (n : Int)).toNat else min (k : Int).toNat n) = min k n
  rw [if_neg (by omega), Int.toNat_natCast]

end
end HT

namespace L2
open PySem PySem.Spec PyProof.Rows

abbrev TO := St → Hp → (Option Int → Hp → Prop) → Prop
noncomputable def PO (X : Cx) (e : Option Expr) (t : TO) : Prop :=
  ∀ (pins : List (Addr × Obj)) (s : Shared) (σ : St) (H : Hp) (Q : Option Int → Hp → Prop), Inv X pins σ H s → t σ H Q →
    wpAny (model X.prog X.w) X.A (evalPart e X.env) (fun u s' => ∃ o H', Inv X pins σ H' s' ∧ IsPart u o ∧ Q o H') X.xe s
noncomputable def tNoPart : TO := fun _ H Q => Q none H
noncomputable def tPart (t : TE) : TO := fun σ H Q => t σ H fun x H1 => ∃ i, x = .int i ∧ Q (some i) H1


section
variable {X : Cx} {e : Expr} {te : TE} {lo hi : Option Expr} {tl th : TO} {pos p2 : Pos}

theorem po_none : PO X none tNoPart := by
  intro pins s σ H Q I h
  rw [evalPart_none]
  exact wpAny_pure ⟨none, H, I, .none, h⟩
theorem po_some (h : PE X e te) : PO X (some e) (tPart te) := by
  intro pins s σ H Q I hw
  rw [evalPart_some]
  refine thn (h pins s σ H _ I hw) fun u s1 ⟨x, H1, I1, r1, q1⟩ => ?_
  obtain ⟨i, rfl, q⟩ := q1
  obtain ⟨t, rfl⟩ := r1
  exact ⟨some i, H1, I1, .int i t, q⟩

noncomputable def SlR (X : Cx) (r : V → Option Int → Option Int → Hp → VK → Prop) : Prop :=
  ∀ (pins : List (Addr × Obj)) (s : Shared) (σ : St) (H : Hp) (x : V) (v vl vu : Value) (lo hi : Option Int) (sl : Addr) (Q : VK), Inv X pins σ H s → RelV x v → s.heap.IsSliceOf sl vl vu .none → IsPart vl lo → IsPart vu hi → r x lo hi H Q →
    ∃ T id, typeLookup (.type T) "__getitem__" = pure (some (.builtin id)) ∧ s.TypeIs v T ∧ wpAny (model X.prog X.w) X.A (getItem v (.ref sl)) (EP X pins σ Q) X.xe s
noncomputable def tSl (r : V → Option Int → Option Int → Hp → VK → Prop) (te : TE) (tl th : TO) : TE := fun σ H Q => te σ H fun x H1 => tl σ H1 fun l H2 => th σ H2 fun u H3 => r x l u H3 Q
theorem pe_slice {r : V → Option Int → Option Int → Hp → VK → Prop} (hr : SlR X r) (he : PE X e te) (hl : PO X lo tl) (hu : PO X hi th) : PE X (.Subscript e (.Slice lo hi none p2) pos) (tSl r te tl th) := by
  intro pins s σ H Q I h
  refine Subscript_ (thn (he pins s σ H _ I h) fun v s1 ⟨x, H1, I1, r1, q1⟩ => ?_)
  refine wpAny_Slice (thn (hl pins s1 σ H1 _ I1 q1) fun vl s2 ⟨l, H2, I2, pl, q2⟩ => thn (hu pins s2 σ H2 _ I2 q2) fun vu s3 ⟨u, H3, I3, pu, q3⟩ => ?_)
  rw [evalPart_none]
  refine wpAny_pure ?_
  have I4 : Inv X pins σ H3 { s3 with heap := s3.heap.push { cls := .type "slice", data := .fields #[vl, vu, .none] } } := I3.kept (t' := s3.toks) fun b ob q => Heap.get?_push_of_some _ q
  obtain ⟨T, id, hT, ht, hg⟩ := hr pins { s3 with heap := s3.heap.push { cls := .type "slice", data := .fields #[vl, vu, .none] } } σ H3 x v vl vu l u s3.heap.objs.size Q I4 r1 (Heap.IsSliceOf.new ..) pl pu q3
  show wpAny (model X.prog X.w) X.A (subscriptTail e (.Slice lo hi none p2) v (.ref s3.heap.objs.size)) (EP X pins σ Q) X.xe { s3 with heap := s3.heap.push { cls := .type "slice", data := .fields #[vl, vu, .none] } }
  exact tail_any (ops := [.ref s3.heap.objs.size, v]) ht hT hg (by with_unfolding_all rfl)

noncomputable def cutV (xs : List V) (lo hi : Option Int) : List V := (xs.drop (HT.sIx xs.length 0 lo)).take (HT.sIx xs.length xs.length hi - HT.sIx xs.length 0 lo)
theorem cutV_length (xs : List V) (lo hi : Option Int) : (cutV xs lo hi).length ≤ xs.length := by
  unfold cutV
  rw [List.length_take, List.length_drop]
  omega

end
end L2

namespace L2
open PySem PySem.Spec PyProof.Rows

noncomputable def ixN (n : Nat) (i : Int) : Option Nat := if 0 ≤ i then (if i < n then some i.toNat else none) else if -(n : Int) ≤ i then some (i + n).toNat else none
noncomputable def atI {α : Type} (xs : List α) (i : Int) : Option α := (ixN xs.length i).bind fun j => xs[j]?
theorem ixN_seq {n : Nat} {i : Int} {j : Nat} (h : ixN n i = some j) : seqIndex? i n = some j ∧ j < n ∧ -(n : Int) ≤ i ∧ i < n := by
  unfold ixN at h
  by_cases h0 : 0 ≤ i
  · rw [if_pos h0] at h
    by_cases h1 : i < n
    · rw [if_pos h1] at h
      have e : i.toNat = j := Option.some.inj h
      exact ⟨by rw [seqIndex_of h0 h1, e], by omega, by omega, h1⟩
    · rw [if_neg h1] at h; cases h
  · rw [if_neg h0] at h
    by_cases h1 : -(n : Int) ≤ i
    · rw [if_pos h1] at h
      have e : (i + n).toNat = j := Option.some.inj h
      exact ⟨by rw [seqIndex_neg (by omega) h1, e], by omega, h1, by omega⟩
    · rw [if_neg h1] at h; cases h
theorem atI_get {α : Type} {xs : List α} {i : Int} {v : α} (h : atI xs i = some v) : ∃ j, seqIndex? i xs.length = some j ∧ xs[j]? = some v ∧ j < xs.length ∧ -(xs.length : Int) ≤ i ∧ i < xs.length := by
  unfold atI at h
  cases e : ixN xs.length i with
  | none => rw [e] at h; cases h
  | some j =>
    rw [e] at h
    obtain ⟨h1, h2, h3, h4⟩ := ixN_seq e
    exact ⟨j, h1, h, h2, h3, h4⟩
theorem atI_nat {α : Type} {xs : List α} {j : Nat} {v : α} (h : xs[j]? = some v) : atI xs (j : Int) = some v := by
  have hj : j < xs.length := (List.getElem?_eq_some_iff.mp h).1
  have e : ixN xs.length (j : Int) = some j := by
    unfold ixN
    rw [if_pos (by omega), if_pos (by omega)]; simp
  unfold atI; rw [e]; exact h

noncomputable def PlainIx (b : Expr) : Prop := ∀ o i, subscripted b false o i = operate [o, i] (getItem o i)
noncomputable def IxR (X : Cx) (r : R2) : Prop :=
  ∀ (value slice : Expr) (pins : List (Addr × Obj)) (s : Shared) (σ : St) (H : Hp) (x y : V) (v u : Value) (Q : VK), Inv X pins σ H s → RelV x v → RelV y u → r x y H Q →
    subscripted slice false v u = operate [v, u] (getItem v u) → wpAny (model X.prog X.w) X.A (subscriptTail value slice v u) (EP X pins σ Q) X.xe s
noncomputable def MtR (X : Cx) (id : String) (r : V → List V → Hp → VK → Prop) : Prop :=
  ∀ (pins : List (Addr × Obj)) (s : Shared) (σ : St) (H : Hp) (x : V) (xs : List V) (v : Value) (us : List Value) (Q : VK), Inv X pins σ H s → RelV x v → Vals xs us → r x xs H Q →
    wpAny (model X.prog X.w) X.A (call (.builtin id) (v :: us)) (EP X pins σ Q) X.xe s
section
variable {X : Cx} {a b : Expr} {ta tb : TE} {pos : Pos}
theorem pe_ix {r : R2} (hr : IxR X r) (ha : PE X a ta) (hb : PE X b tb) (hs : PlainIx b) : PE X (.Subscript a b pos) (tOp r ta tb) := by
  intro pins s σ H Q I h
  exact Subscript_ (binT ha hb I h fun v u s2 x y H2 I2 rx ry q => hr a b pins s2 σ H2 x y v u Q I2 rx ry q (hs _ _))

noncomputable def rIxL (K : PySem.W.Frag) : R2 := fun x y H Q => ∃ p xs i v, x = .ref p ∧ y = .int i ∧ SqL K H p xs ∧ atI xs i = some v ∧ Q v H
noncomputable def rIxT (K : PySem.W.Frag) : R2 := fun x y H Q => ∃ p xs i v, x = .ref p ∧ y = .int i ∧ SqT K H p xs ∧ atI xs i = some v ∧ Q v H
noncomputable def rIxS : R2 := fun x y H Q => ∃ z i c, x = .str z ∧ y = .int i ∧ z.length ≤ sizeLine ∧ atI z.cps.toList i = some c ∧ Q (.str ⟨#[c]⟩) H
theorem ix_list : IxR X (rIxL X.K) := by
  intro value slice pins s σ H x y v u Q I rx ry h hs
  obtain ⟨p, xs, i, z, rfl, rfl, hq, he, q⟩ := h
  cases rx
  obtain ⟨t, rfl⟩ := ry
  obtain ⟨its, r, pl, hz⟩ := I.list hq
  obtain ⟨j, h1, h2, h3, h4, h5⟩ := atI_get he
  obtain ⟨w, ew, rw'⟩ := r.get h2
  have hl := r.length
  have hn := line63
  have fin : EP X pins σ Q w s := ⟨z, H, I, rw', q⟩
  by_cases h0 : 0 ≤ i
  · have hj : i.toNat = j := by
      rw [seqIndex_of h0 h5] at h1
      exact Option.some.inj h1
    exact item_listR pl.isList h0 (by omega) (by rw [hj]; simpa using ew) fin hs
  · have hj : (i + (its.toArray.size : Int)).toNat = j := by
      rw [seqIndex_neg (by omega) h4] at h1
      rw [List.size_toArray, ← hl]
      exact Option.some.inj h1
    exact subscriptTail_builtinR (x := w) pl.isList.typeIs slot_list_getitem.lookup
      (wpAny_getItem_list_neg (Q := fun r s' => r = w ∧ EP X pins σ Q r s') pl.isList (by omega) (by rw [List.size_toArray] <;> omega) (by omega) (by rw [hj]; simpa using ew) ⟨rfl, fin⟩) hs
theorem ix_tup : IxR X (rIxT X.K) := by
  intro value slice pins s σ H x y v u Q I rx ry h hs
  obtain ⟨p, xs, i, z, rfl, rfl, hq, he, q⟩ := h
  cases rx
  obtain ⟨t, rfl⟩ := ry
  obtain ⟨its, r, pl, hz⟩ := I.tuple hq
  obtain ⟨j, h1, h2, h3, h4, h5⟩ := atI_get he
  obtain ⟨w, ew, rw'⟩ := r.get h2
  have hl := r.length
  have hn := line63
  have fin : EP X pins σ Q w s := ⟨z, H, I, rw', q⟩
  exact subscriptTail_builtinR (x := w) pl.typeIs slot_tuple_getitem.lookup
    (getItem_tuple (j := j) (Q := fun r s' => r = w ∧ EP X pins σ Q r s') pl (by omega) (by omega) (by rw [List.size_toArray, ← hl]; exact h1) (by simpa using ew) ⟨rfl, fin⟩) hs
theorem ix_str : IxR X rIxS := by
  intro value slice pins s σ H x y v u Q I rx ry h hs
  obtain ⟨z, i, c, rfl, rfl, hz, he, q⟩ := h
  obtain ⟨t, rfl⟩ := rx
  obtain ⟨t', rfl⟩ := ry
  obtain ⟨j, h1, h2, h3, h4, h5⟩ := atI_get he
  have hl : z.cps.toList.length = z.length := by simp [Str.length]
  rw [hl] at h1 h4 h5
  have hn := line63
  exact tail_any (typeIs_str s z t) slot_str_getitem.lookup (getItem_str (c := c) (by
    have e1 : decide (i < -(2 ^ 63 : Int)) = false := decide_eq_false (by omega)
    have e2 : decide (i ≥ 2 ^ 63) = false := decide_eq_false (by omega)
    rw [e1, e2, Bool.or_false]) (by rw [h1]; simpa using h2) ⟨.str ⟨#[c]⟩, H, I.tok _, ⟨_, rfl⟩, q⟩) hs

theorem mapSeq_set (its : List Value) (n j : Nat) (u : Value) : Obj.mapSeq (·.setIfInBounds j u) { cls := .type "list", data := .seq its.toArray n } = { cls := .type "list", data := .seq (its.set j u).toArray n } := by
  simp [Obj.mapSeq]
theorem Inv.lst {pins : List (Addr × Obj)} {σ : St} {H : Hp} {s : Shared} {p : Addr} {xs : List V} (I : Inv X pins σ H s) (h : H p = some (.lst xs)) :
    ∃ (its : List Value) (n : Nat), Vals xs its ∧ s.heap.get? p = some { cls := .type "list", data := .seq its.toArray n } ∧ xs.length ≤ sizeLine := by
  obtain ⟨z, its, n, r, e⟩ := I.hok p _ h
  exact ⟨its, n, r, e, z⟩
theorem Inv.lstUpd {pins : List (Addr × Obj)} {σ : St} {H : Hp} {s : Shared} {p : Addr} {xs ys : List V} {its its' : List Value} {n n' : Nat} {f : Obj → Obj} (I : Inv X pins σ H s) (h : H p = some (.lst xs))
    (ho : s.heap.get? p = some { cls := .type "list", data := .seq its.toArray n }) (hf : f { cls := .type "list", data := .seq its.toArray n } = { cls := .type "list", data := .seq its'.toArray n' }) (r : Vals ys its') (hz : ys.length ≤ sizeLine) (t : Nat) :
    Inv X pins σ (upd H p (.lst ys)) { s with heap := s.heap.update p f, toks := t } := by
  have e : (s.heap.update p f).get? p = some { cls := .type "list", data := .seq its'.toArray n' } := by
    rw [Heap.get?_update_self f ho (by rw [hf] <;> rfl), hf]
  refine I.write (x := p) (e := p) (by rw [h]; trivial) (.inl rfl) (fun b u hb q => (Heap.get?_update_other _ _ (Ne.symm hb)).trans q) ⟨_, e⟩ ?_
  exact ⟨hz, its', n', r, e⟩
noncomputable def rSetL : V → V → V → Hp → (Hp → Prop) → Prop := fun o i v H Q => ∃ p xs k j, o = .ref p ∧ i = .int k ∧ H p = some (.lst xs) ∧ ixN xs.length k = some j ∧ Q (upd H p (.lst (xs.set j v)))
theorem set_list : PSet X rSetL := by
  intro pins s σ H o i v ov iv u Q I ro ri rv h
  obtain ⟨p, xs, k, j, rfl, rfl, hp, hj, q⟩ := h
  cases ro
  obtain ⟨t, rfl⟩ := ri
  obtain ⟨its, n, r, ho, hz⟩ := I.lst hp
  obtain ⟨h1, h2, h3, h4⟩ := ixN_seq hj
  have hl := r.length
  have hn := line63
  have I' : Inv X pins σ (upd H p (.lst (xs.set j v))) { s with heap := s.heap.update p (Obj.mapSeq (·.setIfInBounds j u)) } :=
    I.lstUpd hp ho (mapSeq_set its n j u) (r.set rv j) (by rw [List.length_set]; exact hz) s.toks
  by_cases h0 : 0 ≤ k
  · have hk : k.toNat = j := by
      rw [seqIndex_of h0 h4] at h1
      exact Option.some.inj h1
    exact PySem.W.ki_setAt ho h0 (by omega) (by rw [List.size_toArray, ← hl]; exact h4) (by rw [hk]; exact ⟨_, I', q⟩)
  · have hk : (k + (its.toArray.size : Int)).toNat = j := by
      rw [seqIndex_neg (by omega) h3] at h1
      rw [List.size_toArray, ← hl]
      exact Option.some.inj h1
    exact PySem.W.ki_setBack ho (by omega) (by rw [List.size_toArray, ← hl]; exact h3) (by omega) (by rw [hk]; exact ⟨_, I', q⟩)

theorem sl_bd (i : Int) (n : Nat) : max 0 (min (if i < 0 then i + (n : Int) else i) (n : Int)) = (((if i < 0 then (i + (n : Int)).toNat else min i.toNat n) : Nat) : Int) := by
  by_cases h : i < 0
  · rw [if_pos h, if_pos h, Int.min_eq_left (by omega)]
    omega
  · obtain ⟨k, rfl⟩ := Int.eq_ofNat_of_zero_le (Int.not_lt.mp h)
    rw [if_neg h, if_neg h, Int.toNat_natCast]
    omega
theorem slice_bounds (lo hi : Option Int) (n : Nat) : (sliceBounds lo hi none n).1 = ((HT.sIx n 0 lo : Nat) : Int) ∧ (sliceBounds lo hi none n).2.1 = ((HT.sIx n n hi : Nat) : Int) ∧ (sliceBounds lo hi none n).2.2 = 1 := by
  refine ⟨?_, ?_, rfl⟩
  · cases lo with
    | none => simp [sliceBounds, HT.sIx]
    | some i =>
      simp only [sliceBounds, HT.sIx, Option.getD_none, show (1 : Int) > 0 by decide, if_true]
      exact sl_bd i n
  · cases hi with
    | none => simp [sliceBounds, HT.sIx]
    | some i =>
      simp only [sliceBounds, HT.sIx, Option.getD_none, show (1 : Int) > 0 by decide, if_true]
      exact sl_bd i n
theorem slicePick_cut (its : List Value) (lo hi : Option Int) : slicePick its.toArray lo hi none = ((its.drop (HT.sIx its.length 0 lo)).take (HT.sIx its.length its.length hi - HT.sIx its.length 0 lo)).toArray := by
  obtain ⟨h1, h2, h3⟩ := slice_bounds lo hi its.toArray.size
  unfold slicePick
  rw [h1, h2, h3]
  simp only [sliceRange_one, pick_run, List.size_toArray] <;> rfl
noncomputable def rSlL (K : PySem.W.Frag) : V → Option Int → Option Int → Hp → VK → Prop := fun x lo hi H Q => ∃ a xs, x = .ref a ∧ SqL K H a xs ∧ ∀ p, H p = none → Q (.ref p) (upd H p (.lst (cutV xs lo hi)))
theorem sl_list : SlR X (rSlL X.K) := by
  intro pins s σ H x v vl vu lo hi sl Q I rx hs pl pu h
  obtain ⟨a, xs, rfl, hx, q⟩ := h
  cases rx
  obtain ⟨its, r, ht, hz⟩ := I.list hx
  have hlen := r.length
  refine ⟨"list", _, slot_list_getitem.lookup, ht.isList.typeIs, ?_⟩
  refine wpAny_getItem_list_slice ht.isList hs pl pu .none (by simp) ?_ (by rw [List.size_toArray] <;> omega)
  rw [slicePick_cut, ← hlen]
  refine ⟨.ref s.heap.objs.size, _, I.laid (t' := s.toks) (o := .lst (cutV xs lo hi)) (fun b ob q => Heap.get?_push_of_some _ q) (Nat.le_refl _) ?_, rfl, q _ (I.hok.fresh (Nat.le_refl _))⟩
  exact ⟨Nat.le_trans (cutV_length xs lo hi) hz, _, 0, (r.drop (HT.sIx xs.length 0 lo)).take (HT.sIx xs.length xs.length hi - HT.sIx xs.length 0 lo), Heap.get?_push_size _ rfl⟩

noncomputable def flatV : V → Bool
  | .non => true
  | .bl _ => true
  | .int _ => true
  | .str _ => true
  | _ => false
noncomputable def eqV : V → V → Bool
  | .non, .non => true
  | .bl a, .bl b => a == b
  | .bl a, .int b => (if a then 1 else 0) == b
  | .int a, .bl b => a == (if b then 1 else 0)
  | .int a, .int b => a == b
  | .str a, .str b => a == b
  | _, _ => false
theorem eqAt_V {A : Around} {s : Shared} {y x : V} {u v : Value} (ry : RelV y u) (rx : RelV x v) (fy : flatV y = true) (fx : flatV x = true) : SeqAt.EqAt A s u v (eqV y x) := by
  cases y with
  | non =>
    cases ry
    cases x with
    | non => cases rx; exact SeqAt.EqAt.same _
    | bl b => cases rx; exact SeqAt.EqAt.none_bool b
    | int b => obtain ⟨t, rfl⟩ := rx; exact SeqAt.EqAt.none_int b t
    | str b => obtain ⟨t, rfl⟩ := rx; exact SeqAt.EqAt.none_str b t
    | _ => exact absurd (show false = true from fx) Bool.false_ne_true
  | bl a =>
    cases ry
    cases x with
    | non => cases rx; exact SeqAt.EqAt.bool_none a
    | bl b => cases rx; exact SeqAt.EqAt.bool_bool a b
    | int b => obtain ⟨t, rfl⟩ := rx; exact SeqAt.EqAt.bool_int a b t
    | str b => obtain ⟨t, rfl⟩ := rx; exact SeqAt.EqAt.bool_str a b t
    | _ => exact absurd (show false = true from fx) Bool.false_ne_true
  | int a =>
    obtain ⟨t', rfl⟩ := ry
    cases x with
    | non => cases rx; exact SeqAt.EqAt.int_none a t'
    | bl b => cases rx; exact SeqAt.EqAt.int_bool a t' b
    | int b => obtain ⟨t, rfl⟩ := rx; exact SeqAt.EqAt.int_int a t' b t
    | str b => obtain ⟨t, rfl⟩ := rx; exact SeqAt.EqAt.int_str a t' b t
    | _ => exact absurd (show false = true from fx) Bool.false_ne_true
  | str a =>
    obtain ⟨t', rfl⟩ := ry
    cases x with
    | non => cases rx; exact SeqAt.EqAt.str_none a t'
    | bl b => cases rx; exact SeqAt.EqAt.str_bool a t' b
    | int b => obtain ⟨t, rfl⟩ := rx; exact SeqAt.EqAt.str_int a t' b t
    | str b => obtain ⟨t, rfl⟩ := rx; exact SeqAt.EqAt.str_str a t' b t
    | _ => exact absurd (show false = true from fx) Bool.false_ne_true
  | _ => exact absurd (show false = true from fy) Bool.false_ne_true
noncomputable def eqU (x : V) (u : Value) : Bool := match u with
  | .none => eqV .non x
  | .bool b => eqV (.bl b) x
  | .int i _ => eqV (.int i) x
  | .str z _ => eqV (.str z) x
  | _ => false
theorem eqU_of {x y : V} {u : Value} (r : RelV y u) (f : flatV y = true) : eqU x u = eqV y x := by
  cases y with
  | non => cases r; rfl
  | bl b => cases r; rfl
  | int i => obtain ⟨t, rfl⟩ := r; rfl
  | str z => obtain ⟨t, rfl⟩ := r; rfl
  | _ => exact absurd (show false = true from f) Bool.false_ne_true
theorem any_eqU {x : V} : ∀ {xs : List V} {us : List Value}, Vals xs us → xs.all flatV = true → us.any (eqU x) = xs.any fun y => eqV y x
  | _, _, .nil, _ => rfl
  | y :: xs, u :: us, .cons r t, f => by
    rw [List.all_cons, Bool.and_eq_true] at f
    rw [List.any_cons, List.any_cons, eqU_of r f.1, any_eqU t f.2]
theorem mem_eqAt {A : Around} {s : Shared} {x : V} {v : Value} (rx : RelV x v) (fx : flatV x = true) : ∀ {xs : List V} {us : List Value}, Vals xs us → xs.all flatV = true → ∀ u ∈ us, SeqAt.EqAt A s u v (eqU x u)
  | _, _, .nil, _ => fun u hu => by cases hu
  | y :: xs, u :: us, .cons r t, f => fun u' hu => by
    rw [List.all_cons, Bool.and_eq_true] at f
    rcases List.mem_cons.mp hu with rfl | hu
    · rw [eqU_of r f.1]; exact eqAt_V r rx f.1 fx
    · exact mem_eqAt rx fx t f.2 u' hu
noncomputable def inV (x : V) (xs : List V) : Bool := xs.any fun y => eqV y x
noncomputable def rIn (K : PySem.W.Frag) (neg : Bool) : R2 := fun x y H Q => ∃ p xs, y = .ref p ∧ (SqL K H p xs ∨ SqT K H p xs) ∧ flatV x = true ∧ xs.all flatV = true ∧ Q (.bl (if neg then !inV x xs else inV x xs)) H
theorem op_notIn_seq : OpR X (compareOp .NotIn) (rIn X.K true) := by
  intro pins s σ H x y v u Q I rx ry h
  obtain ⟨p, xs, rfl, hq, fx, fs, q⟩ := h
  cases ry
  rcases hq with hq | hq
  · obtain ⟨its, r, pl, hz⟩ := I.list hq
    refine SeqAt.notIn_listAt (eqU x) pl.isList (fun w hw => mem_eqAt rx fx r fs w (by simpa using hw)) ⟨.bl _, H, I, rfl, ?_⟩
    rw [show its.toArray.any (eqU x) = its.any (eqU x) by simp, any_eqU r fs]
    exact q
  · obtain ⟨its, r, pl, hz⟩ := I.tuple hq
    refine SeqAt.notIn_tupleAt (eqU x) pl (fun w hw => mem_eqAt rx fx r fs w (by simpa using hw)) ⟨.bl _, H, I, rfl, ?_⟩
    rw [show its.toArray.any (eqU x) = its.any (eqU x) by simp, any_eqU r fs]
    exact q

theorem call_len_seq : CallR X (.builtin "len") (fun xs H Q => ∃ p ys, xs = [.ref p] ∧ (SqL X.K H p ys ∨ SqT X.K H p ys) ∧ Q (.int ys.length) H) := by
  intro pins s σ H xs us Q I r h
  obtain ⟨p, ys, rfl, hq, q⟩ := h
  obtain ⟨u, rfl, rx⟩ := vals1 r
  cases rx
  have hn := line63
  rcases hq with hq | hq
  · obtain ⟨its, r', pl, hz⟩ := I.list hq
    have hlen := r'.length
    exact Calls.call_len_list pl.isList (by simp only [List.size_toArray] <;> omega) ⟨.int ys.length, H, I.tok _, ⟨s.toks + 1, by rw [List.size_toArray, hlen]⟩, q⟩
  · obtain ⟨its, r', pl, hz⟩ := I.tuple hq
    have hlen := r'.length
    exact len_tuple pl (by simp only [List.size_toArray] <;> omega) ⟨.int ys.length, H, I.tok _, ⟨s.toks + 1, by rw [List.size_toArray, hlen]⟩, q⟩
theorem call_len_str : CallR X (.builtin "len") (fun xs H Q => ∃ z, xs = [.str z] ∧ z.length ≤ sizeLine ∧ Q (.int z.length) H) := by
  intro pins s σ H xs us Q I r h
  obtain ⟨z, rfl, hz, q⟩ := h
  obtain ⟨u, rfl, t, rfl⟩ := vals1 r
  have hn := line63
  exact len_str (by omega) ⟨.int z.length, H, I.tok _, ⟨_, rfl⟩, q⟩
theorem call_list_of : CallR X (.type "list") (fun xs H Q => ∃ p ys, xs = [.ref p] ∧ (SqL X.K H p ys ∨ SqT X.K H p ys) ∧ ∀ l, H l = none → Q (.ref l) (upd H l (.lst ys))) := by
  intro pins s σ H xs us Q I r h
  obtain ⟨p, ys, rfl, hq, q⟩ := h
  obtain ⟨u, rfl, rx⟩ := vals1 r
  cases rx
  have fin : ∀ (its : List Value), Vals ys its → ys.length ≤ sizeLine → ∀ (h' : Heap) (c' : Nat), (∀ b o', s.heap.get? b = some o' → h'.get? b = some o') →
      h'.get? s.heap.objs.size = some { cls := .type "list", dict := none, data := .seq its.toArray c', slots := #[] } → EP X pins σ Q (.ref s.heap.objs.size) { s with heap := h' } := fun its r' hz h' c' kp e =>
    ⟨.ref s.heap.objs.size, _, I.laid (t' := s.toks) kp (Nat.le_refl _) (show ObjOk X.prog X.w _ h' _ (.lst ys) from ⟨hz, its, c', r', e⟩), rfl, q _ (I.hok.fresh (Nat.le_refl _))⟩
  rcases hq with hq | hq
  · obtain ⟨its, r', pl, hz⟩ := I.list hq
    have hlen := r'.length
    obtain ⟨o, ho, hc, n, hd⟩ := pl.isList
    exact call_list_seq p (.inl rfl) ho hc hd (fun h' c' kp e => fin its r' hz h' c' kp e) (by simp only [List.size_toArray] <;> omega)
  · obtain ⟨its, r', pl, hz⟩ := I.tuple hq
    have hlen := r'.length
    obtain ⟨o, ho, hc, n, hd⟩ := pl
    exact call_list_seq p (.inr rfl) ho hc hd (fun h' c' kp e => fin its r' hz h' c' kp e) (by simp only [List.size_toArray] <;> omega)

noncomputable def tyV (K : PySem.W.Frag) (T : String) (x : V) (H : Hp) : Prop := match x with
  | .str _ => T = "str"
  | .int _ => T = "int"
  | .ref p => (T = "list" ∧ ∃ xs, SqL K H p xs) ∨ (T = "tuple" ∧ ∃ o, K.lookup p = some o ∧ o.cls = .type "tuple" ∧ o.dict = none) ∨
      (T = "dict" ∧ ((∃ kvs, H p = some (.dK kvs)) ∨ ∃ kvs, H p = some (.dT kvs))) ∨ (T = "set" ∧ ∃ S n, H p = some (.set S n))
  | _ => False
theorem tyV_is {pins : List (Addr × Obj)} {σ : St} {H : Hp} {s : Shared} {T : String} {x : V} {v : Value} (I : Inv X pins σ H s) (r : RelV x v) (ty : tyV X.K T x H) :
    s.TypeIs v T ∧ ∀ a, v = .ref a → ∃ ob, s.heap.get? a = some ob ∧ ob.dict = none := by
  cases x with
  | str z =>
    obtain ⟨t, rfl⟩ := r
    cases (show T = "str" from ty)
    exact ⟨typeIs_str s z t, fun _ e => nomatch e⟩
  | int i =>
    obtain ⟨t, rfl⟩ := r
    cases (show T = "int" from ty)
    exact ⟨typeIs_int s i t, fun _ e => nomatch e⟩
  | ref p =>
    cases r
    rcases ty with ⟨rfl, xs, hq⟩ | ⟨rfl, o, hk, hc, hd⟩ | ⟨rfl, hk⟩ | ⟨rfl, S, n, hk⟩
    · obtain ⟨its, _, pl, _⟩ := I.list hq
      refine ⟨pl.isList.typeIs, fun a e => ?_⟩
      cases e
      obtain ⟨o, n, e, c, hd, _⟩ := pl
      exact ⟨o, e, hd⟩
    · refine ⟨⟨o, I.kIn p o hk, hc⟩, fun a e => ?_⟩
      cases e
      exact ⟨o, I.kIn _ o hk, hd⟩
    · have z : ∃ o, s.heap.get? p = some o ∧ o.ExactDict := by
        rcases hk with ⟨kvs, hk⟩ | ⟨kvs, hk⟩
        · obtain ⟨_, _, _, _, o, _, _, e, ex, _⟩ := I.hok p _ hk
          exact ⟨o, e, ex⟩
        · obtain ⟨_, _, _, _, o, _, _, e, ex, _⟩ := I.hok p _ hk
          exact ⟨o, e, ex⟩
      obtain ⟨o, e, ex⟩ := z
      refine ⟨⟨o, e, ex.1⟩, fun a e2 => ?_⟩
      cases e2
      exact ⟨o, e, ex.2.1⟩
    · obtain ⟨o, _, _, _, e, ex, _⟩ := I.hok p _ hk
      refine ⟨⟨o, e, ex.1⟩, fun a e2 => ?_⟩
      cases e2
      exact ⟨o, e, ex.2.1⟩
  | _ => exact False.elim ty
noncomputable def tBM (K : PySem.W.Frag) (T : String) (r : V → List V → Hp → VK → Prop) (to : TE) (t : TA) : TE := fun σ H Q => to σ H fun x H1 => tyV K T x H1 ∧ t σ H1 fun xs H2 => r x xs H2 Q
variable {o e : Expr} {es : List Expr} {to : TE} {t : TA} {name : Str} {apos cpos : Pos} {T id : String} {r : V → List V → Hp → VK → Prop}
theorem pe_bm (pa : PlainAttrs T) (slot : Slot T name id) (hty : typeOf (.builtin id) = pure (.type "method_descriptor")) (hm : MtR X id r) (ho : PE X o to) (ha : PA X (e :: es) t)
    (hbase : attributeBase o name X.env (eval o X.env) = eval o X.env := by rfl)
    (hfew : ((backTo cpos (starEach (e :: es) X.env)).all (fun x => !x.1) && (backToKw cpos (keywordEach [] X.env)).all (fun x => x.1.isSome)
      && decide ((e :: es).length + ([] : List Keyword).length + (if ([] : List Keyword).isEmpty then 0 else 1) < 30)) = true := by rfl)
    (hline : (apos.endLine == cpos.line) = true := by rfl) (hs : starEach (e :: es) X.env = (false, eval e X.env) :: starEach es X.env := by rfl) (hplain : (backTo cpos (starEach es X.env)).any (·.1) = false := by rfl) :
    PE X (.Call (.Attribute o name apos) (e :: es) [] cpos) (tBM X.K T r to t) := by
  intro pins s σ H Q I h
  refine wpAny_Call_method_late hbase hfew hline rfl (thn (ho pins s σ H _ I h) fun v s1 ⟨x, H1, I1, r1, ty, q1⟩ => ?_)
  obtain ⟨h1, h2⟩ := tyV_is I1 r1 ty
  refine ⟨T, id, pa, slot, hty, h1, h2, ?_⟩
  have hA := ha cpos pins s1 σ H1 _ I1 q1
  rw [hs] at hA ⊢
  refine Calls.callWith_builtin (by show (false || (backTo cpos (starEach es X.env)).any (·.1)) = false; rw [hplain] <;> rfl) (Calls.evalArgs_plain ?_)
  exact thn hA fun us s2 ⟨vs, H2, I2, r2, q2⟩ => hm pins s2 σ H2 x vs v us Q I2 r1 r2 q2
end
end L2

namespace L2
open PySem PySem.Spec PyProof.Rows

noncomputable def MtM (X : Cx) (id : String) (r : V → List V → Hp → VK → Prop) : Prop :=
  ∀ (pins : List (Addr × Obj)) (s : Shared) (σ : St) (H : Hp) (x : V) (xs : List V) (v : Value) (us : List Value) (Q : VK), Inv X pins σ H s → RelV x v → Vals xs us → r x xs H Q →
    wpAny (model X.prog X.w) X.A (call (.builtin id) (v :: us)) (EP X pins σ Q) X.xe s

theorem Vals.one : ∀ {x : V} {us : List Value}, Vals [x] us → ∃ u, us = [u] ∧ RelV x u
  | _, _, .cons r .nil => ⟨_, rfl, r⟩
theorem Vals.eraseIdx : ∀ {xs : List V} {us : List Value} (i : Nat), Vals xs us → Vals (xs.eraseIdx i) (us.eraseIdx i)
  | _, _, _, .nil => .nil
  | _, _, 0, .cons _ t => t
  | _, _, i + 1, .cons r t => .cons r (Vals.eraseIdx i t)
theorem len_erase {α : Type} : ∀ (l : List α) (i : Nat), (l.eraseIdx i).length ≤ l.length
  | [], _ => Nat.le_refl _
  | _ :: _, 0 => Nat.le_succ _
  | _ :: r, i + 1 => Nat.succ_le_succ (len_erase r i)

section
variable {X : Cx} {pins : List (Addr × Obj)} {σ : St} {H : Hp} {s : Shared} {l b : Addr} {xs ys zs : List V}

theorem Inv.lset {its its' : List Value} {n : Nat} {f : Array Value → Array Value} {t' : Nat} (I : Inv X pins σ H s) (hH : H l = some (.lst xs))
    (e : s.heap.get? l = some { cls := .type "list", data := .seq its.toArray n }) (hf : f its.toArray = its'.toArray) (hv : Vals ys its') (hz : ys.length ≤ sizeLine) :
    Inv X pins σ (upd H l (.lst ys)) { s with heap := s.heap.update l (Obj.mapSeq f), toks := t' } := by
  have q := PySem.IsL.update e f
  rw [hf] at q
  refine I.write (x := l) (e := l) (by rw [hH]; exact trivial) (.inl rfl) (fun b' u hb hu => (Heap.get?_update_other s.heap (Obj.mapSeq f) (Ne.symm hb)).trans hu) ⟨_, q⟩ ?_
  exact ⟨hz, its', _, hv, q⟩
theorem Inv.lnew {its : List Value} {t' : Nat} (I : Inv X pins σ H s) (hv : Vals ys its) (hz : ys.length ≤ sizeLine) :
    Inv X pins σ (upd H s.heap.objs.size (.lst ys)) { s with heap := s.heap.push { cls := .type "list", data := .seq its.toArray }, toks := t' } :=
  I.laid (fun _ _ q => Heap.get?_push_of_some _ q) (Nat.le_refl _) ⟨hz, its, 0, hv, Heap.get?_push_size _ rfl⟩
theorem Inv.fresh (I : Inv X pins σ H s) : H s.heap.objs.size = none := I.hok.fresh (Nat.le_refl _)
theorem Inv.lstM (I : Inv X pins σ H s) (hH : H l = some (.lst xs)) : xs.length ≤ sizeLine ∧ ∃ (its : List Value) (n : Nat), Vals xs its ∧ xs.length = its.length ∧ s.heap.get? l = some { cls := .type "list", data := .seq its.toArray n } := by
  obtain ⟨z, its, n, r, e⟩ := I.hok l _ hH
  exact ⟨z, its, n, r, r.length, e⟩

end

section
variable {X : Cx}

noncomputable def rAppend : V → List V → Hp → VK → Prop := fun x vs H Q => ∃ l xs y, x = .ref l ∧ vs = [y] ∧ H l = some (.lst xs) ∧ xs.length < sizeLine ∧ Q .non (upd H l (.lst (xs ++ [y])))
theorem mt_append : MtM X "list.append" rAppend := by
  intro pins s σ H x vs v us Q I rx rv h
  obtain ⟨l, xs, y, rfl, rfl, hH, hz, q⟩ := h
  cases rx
  obtain ⟨u, rfl, ru⟩ := rv.one
  obtain ⟨z, its, n, r, hl, e⟩ := I.lstM hH
  refine call_meets F.slot_list_append ⟨_, e, rfl⟩ F.entry_list_append (F.args_list_append_2 _ _) (PySem.list_append l its.toArray n u (by rw [List.size_toArray]; omega)) ⟨e, ?_⟩
  refine ⟨.non, _, I.lset (its' := its ++ [u]) hH e (by simp) (r.append (.cons ru .nil)) ?_, rfl, q⟩
  rw [List.length_append, List.length_singleton]
  omega



noncomputable def rPopAt : V → List V → Hp → VK → Prop := fun x vs H Q => ∃ l xs i k y, x = .ref l ∧ vs = [.int i] ∧ H l = some (.lst xs) ∧ -(2 ^ 63) ≤ i ∧ i < 2 ^ 63 ∧ seqIndex? i xs.length = some k ∧ xs[k]? = some y ∧ Q y (upd H l (.lst (xs.eraseIdx k)))
theorem mt_popAt : MtM X "list.pop" rPopAt := by
  intro pins s σ H x vs v us Q I rx rv h
  obtain ⟨l, xs, i, k, y, rfl, rfl, hH, h1, h2, hk, hy, q⟩ := h
  cases rx
  obtain ⟨u, rfl, ru⟩ := rv.one
  obtain ⟨t, rfl⟩ := ru
  obtain ⟨z, its, n, r, hl, e⟩ := I.lstM hH
  obtain ⟨w, hw, rw'⟩ := r.get hy
  refine call_meets F.slot_list_pop ⟨_, e, rfl⟩ F.entry_list_pop (F.args_list_pop_2 _ _)
    (MeetsSeq.list_pop_at l its.toArray n i t k w (fitsIndex_both h1 h2) (by rw [List.size_toArray, ← hl]; exact hk) (by rw [← Array.getElem?_toList]; exact hw) (by rw [List.size_toArray]; omega)) ⟨e, ?_⟩
  refine ⟨y, _, I.lset (its' := its.eraseIdx k) hH e ?_ (r.eraseIdx k) ?_, rw', q⟩
  · show its.toArray.eraseIdxIfInBounds k = (its.eraseIdx k).toArray
    rw [List.eraseIdxIfInBounds_toArray]
  · have := len_erase xs k
    omega



noncomputable def rCat : R2 := fun x y H Q => ∃ l b xs zs, x = .ref l ∧ y = .ref b ∧ H l = some (.lst xs) ∧ H b = some (.lst zs) ∧ xs.length + zs.length ≤ sizeLine ∧ ∀ p, H p = none → Q (.ref p) (upd H p (.lst (xs ++ zs)))
theorem op_cat : OpR X (binaryOp .Add) rCat := by
  intro pins s σ H x y v u Q I rx ry h
  obtain ⟨l, b, xs, zs, rfl, rfl, hH, hB, hz, q⟩ := h
  cases rx
  cases ry
  obtain ⟨z, its, n, r, hl, e⟩ := I.lstM hH
  obtain ⟨z2, its2, n2, r2, hl2, e2⟩ := I.lstM hB
  refine PySem.P.add_list e e2 ?_ (by rw [List.size_toArray, List.size_toArray]; omega)
  have ea : its.toArray ++ its2.toArray = (its ++ its2).toArray := by simp
  rw [ea]
  exact ⟨.ref _, _, I.lnew (t' := s.toks) (r.append r2) (by rw [List.length_append]; omega), rfl, q _ I.fresh⟩

end

section
variable {prog : Program} {w : World} {A : Around} {E : Value → Shared → Prop} {s : Shared}
end

section
variable {X : Cx}
end
end L2

namespace L2
open PySem PySem.Spec PyProof.Rows

section
variable {κ : Type} [DecidableEq κ]
noncomputable def valV (kvs : List (κ × V)) (k : κ) : Option V := (kvs.find? fun kv => decide (kv.1 = k)).map (·.2)
noncomputable def putK (kvs : List (κ × V)) (k : κ) (v : V) : List (κ × V) :=
  if (kvs.any fun kv => decide (kv.1 = k)) = true then kvs.map (fun kv => if kv.1 = k then (kv.1, v) else kv) else kvs ++ [(k, v)]

theorem valV_pos {p : κ × V} {r : List (κ × V)} {k : κ} (e : p.1 = k) : valV (p :: r) k = some p.2 := by simp [valV, List.find?_cons, e]
theorem valV_neg {p : κ × V} {r : List (κ × V)} {k : κ} (e : ¬ p.1 = k) : valV (p :: r) k = valV r k := by simp [valV, List.find?_cons, e]
theorem valV_any (k : κ) : ∀ kvs : List (κ × V), (kvs.any fun kv => decide (kv.1 = k)) = (valV kvs k).isSome
  | [] => rfl
  | p :: r => by
    rw [List.any_cons]
    by_cases e : p.1 = k
    · simp only [valV_pos e, decide_eq_true e, Bool.true_or, Option.isSome_some]
    · rw [valV_neg e, decide_eq_false e, Bool.false_or]; exact valV_any k r
theorem valV_map (k j : κ) (y : V) : ∀ kvs : List (κ × V), valV (kvs.map fun kv => if kv.1 = k then (kv.1, y) else kv) j = (valV kvs j).map fun x => if j = k then y else x
  | [] => rfl
  | p :: r => by
    have ih := valV_map k j y r
    rw [List.map_cons]
    by_cases h : p.1 = k
    · rw [if_pos h]
      by_cases e : p.1 = j
      · rw [valV_pos (p := (p.1, y)) e, valV_pos e, Option.map_some, if_pos (e.symm.trans h)]
      · rw [valV_neg (p := (p.1, y)) e, valV_neg e, ih]
    · rw [if_neg h]
      by_cases e : p.1 = j
      · rw [valV_pos (p := p) e, valV_pos e, Option.map_some, if_neg (fun z => h (e.trans z))]
      · rw [valV_neg (p := p) e, valV_neg e, ih]
theorem valV_snoc (k j : κ) (y : V) : ∀ kvs : List (κ × V), valV kvs k = none → valV (kvs ++ [(k, y)]) j = if j = k then some y else valV kvs j
  | [], _ => by
    by_cases e : k = j
    · rw [if_pos e.symm]; exact valV_pos (p := (k, y)) e
    · rw [if_neg (fun z => e z.symm)]; exact valV_neg (p := (k, y)) e
  | p :: r, hn => by
    rw [List.cons_append]
    have hk : ¬ p.1 = k := fun z => by rw [valV_pos z] at hn; cases hn
    rw [valV_neg hk] at hn
    have ih := valV_snoc k j y r hn
    by_cases e : p.1 = j
    · rw [valV_pos e, valV_pos e, if_neg (fun z => hk (e.trans z))]
    · rw [valV_neg e, valV_neg e, ih]
theorem valV_put (kvs : List (κ × V)) (k j : κ) (y : V) : valV (putK kvs k y) j = if j = k then some y else valV kvs j := by
  unfold putK
  by_cases a : (kvs.any fun kv => decide (kv.1 = k)) = true
  · rw [if_pos a, valV_map]
    rw [valV_any] at a
    by_cases e : j = k
    · obtain ⟨x, hx⟩ := Option.isSome_iff_exists.mp a
      rw [if_pos e, e, hx, Option.map_some, if_pos rfl]
    · rw [if_neg e]
      cases valV kvs j with
      | none => rfl
      | some x => rw [Option.map_some, if_neg e]
  · rw [if_neg a]
    refine valV_snoc k j y kvs ?_
    rw [valV_any] at a
    cases q : valV kvs k with
    | none => rfl
    | some x => rw [q] at a; exact (a rfl).elim
theorem length_putK (kvs : List (κ × V)) (k : κ) (v : V) : (putK kvs k v).length ≤ kvs.length + 1 := by
  unfold putK
  split
  · rw [List.length_map]; omega
  · rw [List.length_append, List.length_cons, List.length_nil]; omega
theorem putK_new {kvs : List (κ × V)} {k : κ} (v : V) (h : valV kvs k = none) : putK kvs k v = kvs ++ [(k, v)] := by
  unfold putK
  rw [valV_any, h]
  exact if_neg (by decide)

theorem RelO.isSome_eq {o : Option V} {u : Option Value} (r : RelO o u) : o.isSome = u.isSome := by
  cases o with
  | none => cases u with
    | none => rfl
    | some _ => exact (show False from r).elim
  | some _ => cases u with
    | none => exact (show False from r).elim
    | some _ => rfl
theorem RelO.getD {o : Option V} {u : Option Value} {d : V} {d' : Value} (r : RelO o u) (rd : RelV d d') : RelV (o.getD d) (u.getD d') := by
  cases o with
  | none => cases u with
    | none => exact rd
    | some _ => exact (show False from r).elim
  | some _ => cases u with
    | none => exact (show False from r).elim
    | some _ => exact r

theorem KV.val {kvs : List (κ × V)} {vs : List (κ × Value)} (r : KV kvs vs) (k : κ) : RelO (valV kvs k) (valueAt vs k) := by
  unfold KV at r
  induction r with
  | nil => exact True.intro
  | @cons p q ps qs h t ih =>
    obtain ⟨h1, h2⟩ := h
    by_cases e : p.1 = k
    · have e' : q.1 = k := h1.symm.trans e
      have b : valueAt (q :: qs) k = some q.2 := by simp [valueAt, List.find?_cons, e']
      rw [valV_pos e, b]; exact h2
    · have e' : ¬ q.1 = k := fun z => e (h1.trans z)
      have b : valueAt (q :: qs) k = valueAt qs k := by simp [valueAt, List.find?_cons, e']
      rw [valV_neg e, b]; exact ih
theorem KV.any {kvs : List (κ × V)} {vs : List (κ × Value)} (r : KV kvs vs) (k : κ) : (kvs.any fun kv => decide (kv.1 = k)) = vs.any fun kv => decide (kv.1 = k) := by
  unfold KV at r
  induction r with
  | nil => rfl
  | cons h t ih => rw [List.any_cons, List.any_cons, ih, h.1]
theorem KV.repl {kvs : List (κ × V)} {vs : List (κ × Value)} (r : KV kvs vs) (k : κ) {y : V} {u : Value} (ry : RelV y u) :
    KV (kvs.map fun kv => if kv.1 = k then (kv.1, y) else kv) (vs.map fun kv => if kv.1 = k then (kv.1, u) else kv) := by
  unfold KV at r ⊢
  induction r with
  | nil => exact .nil
  | @cons p q ps qs h t ih =>
    rw [List.map_cons, List.map_cons]
    refine .cons ?_ ih
    obtain ⟨h1, h2⟩ := h
    by_cases e : p.1 = k
    · rw [if_pos e, if_pos (h1.symm.trans e)]; exact ⟨h1, ry⟩
    · rw [if_neg e, if_neg (fun z => e (h1.trans z))]; exact ⟨h1, h2⟩
theorem KV.put {kvs : List (κ × V)} {vs : List (κ × Value)} (r : KV kvs vs) (k : κ) {y : V} {u : Value} (ry : RelV y u) : KV (putK kvs k y) (stored vs k u) := by
  unfold putK stored
  rw [r.any k]
  by_cases e : (vs.any fun kv => decide (kv.1 = k)) = true
  · rw [if_pos e, if_pos e]; exact r.repl k ry
  · rw [if_neg e, if_neg e]; exact Paired.snoc r ⟨rfl, ry⟩
theorem KV.length {kvs : List (κ × V)} {vs : List (κ × Value)} (r : KV kvs vs) : kvs.length = vs.length := Paired.length r
end


theorem kV_is {P : Program} {w : World} {k : Key} {u : Value} (r : RelV (kV k) u) : (mixKind P w).is k u = true := by
  cases k with
  | inl i => obtain ⟨t, e⟩ := (show ∃ t, u = Value.int i t from r); subst e; exact mixKind_int P w i t
  | inr x => obtain ⟨t, e⟩ := (show ∃ t, u = Value.str x t from r); subst e; exact mixKind_str P w x t
theorem items_are {P : Program} {w : World} : ∀ {ks : List Key} {us : List Value}, Vals (ks.map kV) us → ItemsAre (mixKind P w) ks us
  | [], _, r => by rw [List.map_nil] at r; cases r; exact .nil
  | k :: ks, _, r => by
    rw [List.map_cons] at r
    cases r with
    | cons h t => exact .cons (kV_is h) (items_are t)

abbrev KT (H : Hp) : List (List Key × V) → List (List Key × Addr × Value) → Prop := Paired fun p q => p.1 = q.1 ∧ H q.2.1 = some (.tup (p.1.map kV)) ∧ RelV p.2 q.2.2
theorem KT.val {H : Hp} {kvs : List (List Key × V)} {xs : List (List Key × Addr × Value)} (r : KT H kvs xs) (k : List Key) : RelO (valV kvs k) ((atKey xs k).map (·.2)) := by
  induction r with
  | nil => exact True.intro
  | @cons p q ps qs h t ih =>
    obtain ⟨h1, _, h2⟩ := h
    by_cases e : p.1 = k
    · have e' : q.1 = k := h1.symm.trans e
      have b : atKey (q :: qs) k = some q.2 := by simp [atKey, List.find?_cons, e']
      rw [valV_pos e, b]; exact h2
    · have e' : ¬ q.1 = k := fun z => e (h1.trans z)
      have b : atKey (q :: qs) k = atKey qs k := by simp [atKey, List.find?_cons, e']
      rw [valV_neg e, b]; exact ih
theorem KT.repl {H : Hp} {kvs : List (List Key × V)} {xs : List (List Key × Addr × Value)} (r : KT H kvs xs) (k : List Key) {y : V} {u : Value} (ry : RelV y u) :
    KT H (kvs.map fun kv => if kv.1 = k then (kv.1, y) else kv) (xs.map (putAt k u)) := by
  induction r with
  | nil => exact .nil
  | @cons p q ps qs h t ih =>
    rw [List.map_cons, List.map_cons]
    refine .cons ?_ ih
    obtain ⟨h1, h2, h3⟩ := h
    unfold putAt
    by_cases e : p.1 = k
    · rw [if_pos e, if_pos (h1.symm.trans e)]; exact ⟨h1, h2, ry⟩
    · rw [if_neg e, if_neg (fun z => e (h1.trans z))]; exact ⟨h1, h2, h3⟩
theorem KT.put {H : Hp} {kvs : List (List Key × V)} {xs : List (List Key × Addr × Value)} (r : KT H kvs xs) (k : List Key) {b : Addr} {y : V} {u : Value} (hb : H b = some (.tup (k.map kV))) (ry : RelV y u) :
    KT H (putK kvs k y) (storedH xs k b u) := by
  have e : (kvs.any fun kv => decide (kv.1 = k)) = (atKey xs k).isSome := by
    rw [valV_any, (r.val k).isSome_eq, Option.isSome_map]
  unfold putK storedH
  rw [e]
  by_cases q : (atKey xs k).isSome = true
  · rw [if_pos q, if_pos q]; exact r.repl k ry
  · rw [if_neg q, if_neg q]; exact Paired.snoc r ⟨rfl, hb, ry⟩
theorem KT.keeps {H H' : Hp} {kvs : List (List Key × V)} {xs : List (List Key × Addr × Value)} (r : KT H kvs xs) (ht : ∀ b ys, H b = some (.tup ys) → H' b = some (.tup ys)) : KT H' kvs xs :=
  Paired.mapP r fun _ _ z => ⟨z.1, ht _ _ z.2.1, z.2.2⟩

section
variable {P : Program} {w : World} {H : Hp} {h : Heap} {a : Addr}
theorem rd_of {u : HO} (ok : HOk P w H h) (e : Rd H a u) : ObjOk P w H h a u := e.ok ok
theorem dk_rd {kvs : List (Key × V)} (ok : HOk P w H h) (e : Rd H a (.dK kvs)) : kvs.length ≤ sizeLine ∧ (a == sysModules) = false ∧ ∃ vs, KV kvs vs ∧ h.DictOf (mixKind P w) a vs :=
  show ObjOk P w H h a (.dK kvs) from rd_of ok e
theorem dk_of {kvs : List (Key × V)} (ok : HOk P w H h) (e : H a = some (.dK kvs)) : kvs.length ≤ sizeLine ∧ (a == sysModules) = false ∧ ∃ vs, KV kvs vs ∧ h.DictOf (mixKind P w) a vs := dk_rd ok (.inl e)
theorem key_of {ks : List Key} (ok : HOk P w H h) (e : H a = some (.tup (ks.map kV))) : (tupleKind (mixKind P w)).is h ks a := by
  obtain ⟨_, its, r, o, h1, h2, n, h3⟩ := (show ObjOk P w H h a (.tup (ks.map kV)) from ok a _ e)
  exact ⟨o, its.toArray, n, h1, h2, h3, by simpa using items_are r⟩
theorem dt_rd {kvs : List (List Key × V)} (ok : HOk P w H h) (e : Rd H a (.dT kvs)) : kvs.length ≤ sizeLine ∧ (a == sysModules) = false ∧
    ∃ xs, KT H kvs xs ∧ h.DictOfH (tupleKind (mixKind P w)) a xs := by
  obtain ⟨z, y, xs, r, o, es, ep, h1, h2, h3, h4, h5⟩ := (show ObjOk P w H h a (.dT kvs) from rd_of ok e)
  refine ⟨z, y, xs, r, o, es, ep, h1, h2, h3, h4, fun x hx => ?_, h5⟩
  have all : ∀ {l : List (List Key × V)} {m : List (List Key × Addr × Value)}, KT H l m → ∀ x ∈ m, (tupleKind (mixKind P w)).is h x.1 x.2.1 := by
    intro l m q
    induction q with
    | nil => intro x hx; exact nomatch hx
    | @cons p q ps qs hq t ih =>
      intro x hx
      rcases List.mem_cons.mp hx with e | hx
      · subst e
        exact key_of ok (by rw [← hq.1]; exact hq.2.1)
      · exact ih x hx
  exact all r x hx
theorem dt_of {kvs : List (List Key × V)} (ok : HOk P w H h) (e : H a = some (.dT kvs)) : kvs.length ≤ sizeLine ∧ (a == sysModules) = false ∧
    ∃ xs, KT H kvs xs ∧ h.DictOfH (tupleKind (mixKind P w)) a xs := dt_rd ok (.inl e)
end

noncomputable def DGet (H : Hp) (a : Addr) (y : V) (r : Option V) : Prop :=
  (∃ kvs k, Rd H a (.dK kvs) ∧ y = kV k ∧ r = valV kvs k) ∨ ∃ kvs k b, Rd H a (.dT kvs) ∧ y = .ref b ∧ H b = some (.tup (k.map kV)) ∧ r = valV kvs k
noncomputable def DPut (H : Hp) (a : Addr) (y v : V) (H' : Hp) : Prop :=
  (∃ kvs k, H a = some (.dK kvs) ∧ y = kV k ∧ kvs.length < sizeLine ∧ H' = upd H a (.dK (putK kvs k v))) ∨
  ∃ kvs k b, H a = some (.dT kvs) ∧ y = .ref b ∧ H b = some (.tup (k.map kV)) ∧ kvs.length < sizeLine ∧ H' = upd H a (.dT (putK kvs k v))
theorem DGet.k {H : Hp} {a : Addr} {kvs : List (Key × V)} {k : Key} (e : H a = some (.dK kvs)) : DGet H a (kV k) (valV kvs k) := .inl ⟨kvs, k, .inl e, rfl, rfl⟩
theorem DPut.k {H : Hp} {a : Addr} {kvs : List (Key × V)} {k : Key} {v : V} (e : H a = some (.dK kvs)) (hl : kvs.length < sizeLine) : DPut H a (kV k) v (upd H a (.dK (putK kvs k v))) := .inl ⟨kvs, k, e, rfl, hl, rfl⟩


section
variable {X : Cx} {pins : List (Addr × Obj)} {σ : St} {H : Hp} {s : Shared} {a : Addr} {y v : V} {u r : Value} {o : Option V} {A : Around} {E : Value → Shared → Prop}

theorem Inv.big (I : Inv X pins σ H s) : sysModules < s.heap.objs.size := by
  have h : mainGlobals < s.heap.objs.size := (I.mod.glob.keeps I.bk).lt
  exact Nat.lt_trans (by decide) h

theorem d_getItem {Q : Value → Shared → Prop} (hu : A.units + 1 < cLine) (I : Inv X pins σ H s) (g : DGet H a y (some v)) (ry : RelV y u) (h : ∀ w' s', Inv X pins σ H s' → RelV v w' → Q w' s') :
    wpAny (model X.prog X.w) A (getItem (.ref a) u) Q E s := by
  rcases g with ⟨kvs, k, e, ey, l⟩ | ⟨kvs, k, b, e, ey, eb, l⟩
  · subst ey
    obtain ⟨z, hd, vs, rel, dd⟩ := dk_rd I.hok e
    obtain ⟨w', hw, rw'⟩ := RelO.some_of (v := v) (o := valueAt vs k) (by rw [l]; exact rel.val k)
    exact wpAny_getItem_of (kV_is ry) dd.mapOf hw (h w' _ (I.tok _) rw')
  · subst ey
    cases (show u = Value.ref b from ry)
    obtain ⟨z, hd, xs, rel, dd⟩ := dt_rd I.hok e
    obtain ⟨w', hw, rw'⟩ := RelO.some_of (v := v) (o := (atKey xs k).map (·.2)) (by rw [l]; exact rel.val k)
    obtain ⟨p, hp, hp2⟩ := Option.map_eq_some_iff.mp hw
    refine wpAny_getItem_heap (tupleKind_room_in1 hu) (key_of I.hok eb) dd hp ?_
    rw [hp2]
    exact h w' _ (I.tok _) rw'
theorem d_notIn {Q : Value → Shared → Prop} (hu : A.units + 1 < cLine) (I : Inv X pins σ H s) (g : DGet H a y o) (ry : RelV y u) (h : ∀ s', Inv X pins σ H s' → Q (.bool (!o.isSome)) s') :
    wpAny (model X.prog X.w) A (compareOp .NotIn u (.ref a)) Q E s := by
  rcases g with ⟨kvs, k, e, ey, l⟩ | ⟨kvs, k, b, e, ey, eb, l⟩
  · subst ey
    obtain ⟨z, hd, vs, rel, dd⟩ := dk_rd I.hok e
    refine wpAny_notIn_of (kV_is ry) hd dd.mapOf ?_
    rw [← (rel.val k).isSome_eq, ← l]
    exact h _ (I.tok _)
  · subst ey
    cases (show u = Value.ref b from ry)
    obtain ⟨z, hd, xs, rel, dd⟩ := dt_rd I.hok e
    refine wpAny_notIn_heap (tupleKind_room_in1 hu) (key_of I.hok eb) hd dd ?_
    have q := (rel.val k).isSome_eq
    rw [Option.isSome_map] at q
    rw [← q, ← l]
    exact h _ (I.tok _)
theorem d_write {h' : Heap} {t' : Nat} {ob : HO} (I : Inv X pins σ H s) (mu : Mut (H a)) (hs : Heap.SameBut a s.heap h') (he : ∃ q, h'.get? a = some q) (new : ObjOk X.prog X.w (upd H a ob) h' a ob) :
    Inv X pins σ (upd H a ob) { s with heap := h', toks := t' } :=
  I.write (x := a) (e := a) mu (.inl rfl) (fun b q hb z => (hs.2 b hb).trans z) he new
theorem dk_new {P : Program} {w : World} {H' : Hp} {h' : Heap} {kvs : List (Key × V)} {vs : List (Key × Value)} (z : kvs.length ≤ sizeLine) (hd : (a == sysModules) = false) (rel : KV kvs vs) (dd : h'.DictOf (mixKind P w) a vs) :
    ObjOk P w H' h' a (.dK kvs) := ⟨z, hd, vs, rel, dd⟩
theorem d_setItem {H' : Hp} {Q : Unit → Shared → Prop} (hu : A.units + 1 < cLine) (I : Inv X pins σ H s) (g : DPut H a y v H') (ry : RelV y u) (rv : RelV v r) (h : ∀ s', Inv X pins σ H' s' → Q () s') :
    wpAny (model X.prog X.w) A (setItem (.ref a) u r) Q E s := by
  rcases g with ⟨kvs, k, e, ey, l, eH⟩ | ⟨kvs, k, b, e, ey, eb, l, eH⟩
  · subst ey eH
    obtain ⟨z, hd, vs, rel, dd⟩ := dk_of I.hok e
    have hz : vs.length ≤ sizeLine := by rw [← rel.length]; exact z
    have hl : (putK kvs k v).length ≤ sizeLine := by have := length_putK kvs k v; omega
    refine wpAny_setItem_pairs (hsz := hz) (kV_is ry) dd fun h' dd' hs => h _ ?_
    have he : ∃ q, h'.get? a = some q := let ⟨q, _, _, hq, _⟩ := dd'; ⟨q, hq⟩
    exact d_write I (by rw [e]; exact True.intro) hs he (dk_new hl hd (rel.put k rv) dd')
  · subst ey eH
    cases (show u = Value.ref b from ry)
    obtain ⟨z, hd, xs, rel, dd⟩ := dt_of I.hok e
    have hz : xs.length ≤ sizeLine := by rw [← Paired.length rel]; exact z
    have hl : (putK kvs k v).length ≤ sizeLine := by have := length_putK kvs k v; omega
    refine wpAny_setItem_heap (hsz := hz) (tupleKind_room_in1 hu) (key_of I.hok eb) dd fun h' dd' hs => h _ ?_
    obtain ⟨q, es, ep, hq, h2, h3, h4, _, h5⟩ := dd'
    refine d_write I (by rw [e]; exact True.intro) hs ⟨q, hq⟩ ⟨hl, hd, _, (rel.put k eb rv).keeps fun c ys ec => ?_, q, es, ep, hq, h2, h3, h4, h5⟩
    rw [upd_ne (ne_of ec e (fun z => nomatch z))]
    exact ec
end

section
variable {X : Cx} {pins : List (Addr × Obj)} {σ : St} {H : Hp} {s : Shared} {a : Addr} {kvs : List (Key × V)} {k : Key} {u : Value} {A : Around} {E : Value → Shared → Prop}
end


noncomputable def NoSl (i : Expr) : Prop := ∀ ov iv, subscripted i false ov iv = operate [ov, iv] (getItem ov iv)
theorem subD_of {prog : Program} {w : World} {A : Around} {E : Value → Shared → Prop} {s : Shared} {env : Env} {value slice : Expr} {pos : Pos} {T id : String} {Q : Value → Shared → Prop}
    (hl : typeLookup (.type T) "__getitem__" = pure (some (.builtin id))) (hs : NoSl slice)
    (h : wpAny (model prog w) A (eval value env) (fun o s₁ => wpAny (model prog w) A (eval slice env) (fun i s₂ => s₂.TypeIs o T ∧ wpAny (model prog w) A (getItem o i) Q E s₂) E s₁) E s) :
    wpAny (model prog w) A (eval (.Subscript value slice pos) env) Q E s := by
  refine Subscript_ (wpAny_mono h (fun o s₁ h₁ => wpAny_mono h₁ (fun i s₂ h₂ => ?_) fun _ _ x => x) fun _ _ x => x)
  obtain ⟨hT, h₂⟩ := h₂
  unfold subscriptTail
  refine wpAny_bind ?_
  rw [getitemInPython_of_ne hT.not_modules]
  refine wpAny_bind (wpAny_specialOf hT hl ?_)
  have fin : wpAny (model prog w) A (subscripted slice false o i) (fun r s₃ => wpAny (model prog w) A (letTemporaryGo value o r >>= fun _ => pure r) Q E s₃) E s₂ := by
    rw [hs o i]
    exact wpAny_operating (wpAny_mono h₂ (fun r s₃ h₃ => wpAny_bind (wpAny_letTemporaryGo (wpAny_pure h₃))) fun _ _ x => x)
  first
    | exact wpAny_pure (wpAny_bind fin)
    | exact wpAny_bind (wpAny_pure (wpAny_bind fin))
    | exact wpAny_bind fin

theorem dict_typeIs {X : Cx} {pins : List (Addr × Obj)} {σ : St} {H : Hp} {s : Shared} {a : Addr} {y : V} {o : Option V} (I : Inv X pins σ H s) (g : DGet H a y o) : s.TypeIs (.ref a) "dict" := by
  rcases g with ⟨kvs, k, e, _, _⟩ | ⟨kvs, k, b, e, _, _, _⟩
  · obtain ⟨_, _, vs, _, dd⟩ := dk_rd I.hok e
    exact dd.typeIs
  · obtain ⟨_, _, xs, _, dd⟩ := dt_rd I.hok e
    exact dd.typeIs

noncomputable def tDGet (td ty : TE) : TE := fun σ H Q => td σ H fun x H1 => ty σ H1 fun y H2 => ∃ a v, x = .ref a ∧ DGet H2 a y (some v) ∧ Q v H2
noncomputable def tDNotIn (ty td : TE) : TE := fun σ H Q => ty σ H fun y H1 => td σ H1 fun x H2 => ∃ a o, x = .ref a ∧ DGet H2 a y o ∧ Q (.bl (!o.isSome)) H2
noncomputable def sDPut (td ty tv : TE) : TS := fun D σ H => tv σ H fun v H1 => td σ H1 fun x H2 => ty σ H2 fun y H3 => ∃ a H4, x = .ref a ∧ DPut H3 a y v H4 ∧ D.nx σ H4

section
variable {X : Cx} {o i e value : Expr} {pos pos' tpos : Pos} {td ty tv : TE}
theorem pe_dget (hu : X.A.units + 1 < cLine) (ho : PE X o td) (hi : PE X i ty) (hs : NoSl i) : PE X (.Subscript o i pos) (tDGet td ty) := by
  intro pins s σ H Q I h
  refine subD_of PySem.F.slot_dict_getitem.lookup hs (thn (ho pins s σ H _ I h) fun u s1 ⟨x, H1, I1, rx, q1⟩ => thn (hi pins s1 σ H1 _ I1 q1) fun iv s2 ⟨y, H2, I2, ry, a, v, ex, g, q2⟩ => ?_)
  subst ex
  obtain rfl : u = Value.ref a := rx
  exact ⟨dict_typeIs I2 g, d_getItem hu I2 g ry fun w' s3 I3 rw' => ⟨v, H2, I3, rw', q2⟩⟩
theorem pc_dnotin (hu : X.A.units + 1 < cLine) (hi : PE X i ty) (ho : PE X o td) : PC X .NotIn i o (tDNotIn ty td) := by
  intro pins s σ H Q I h
  refine thn (hi pins s σ H _ I h) fun iv s1 ⟨y, H1, I1, ry, q1⟩ => thn (ho pins s1 σ H1 _ I1 q1) fun u s2 ⟨x, H2, I2, rx, a, ov, ex, g, q2⟩ => ?_
  subst ex
  obtain rfl : u = Value.ref a := rx
  exact d_notIn hu I2 g ry fun s3 I3 => ⟨.bl (!ov.isSome), H2, I3, rfl, q2⟩
theorem ps_dput (hu : X.A.units + 1 < cLine) (ho : PE X o td) (hi : PE X i ty) (hv : PE X value tv) (hs : swapsWith value (some (.Subscript o i pos')) pos.line X.env = pure false) :
    PS X (.Assign [.Subscript o i pos'] value pos) (sDPut td ty tv) := by
  intro pins s σ H D I h
  refine wpAny_Assign_Subscript (thn (hv pins s σ H _ I h) fun r s1 ⟨v, H1, I1, rv, q1⟩ => thn (ho pins s1 σ H1 _ I1 q1) fun u s2 ⟨x, H2, I2, rx, q2⟩ => thn (hi pins s2 σ H2 _ I2 q2) fun iv s3 ⟨y, H3, I3, ry, a, H4, ex, g, q3⟩ => ?_) hs
  subst ex
  obtain rfl : u = Value.ref a := rx
  exact d_setItem hu I3 g ry rv fun s4 I4 => ⟨σ, H4, I4, q3⟩
end


theorem dk_empty {P : Program} {w : World} {H : Hp} (h : Heap) (hb : sysModules < h.objs.size) : ObjOk P w H (h.push { cls := .type "dict", data := .dict #[] }) h.objs.size (.dK []) :=
  ⟨Nat.zero_le _, beq_eq_false_iff_ne.mpr (Ne.symm (Nat.ne_of_lt hb)), [], .nil, Heap.DictOf.new h⟩
noncomputable def tDNewK : TE := fun _ H Q => ∀ p, H p = none → Q (.ref p) (upd H p (.dK []))
section
variable {X : Cx} {pos : Pos}
theorem pe_dnewK : PE X (.Dict [] [] pos) tDNewK := fun pins s σ H Q I h =>
  wpAny_Dict_empty ⟨.ref s.heap.objs.size, _, I.laid (a := s.heap.objs.size) (o := .dK []) (t' := s.toks) (fun _ _ q => Heap.get?_push_of_some _ q) (Nat.le_refl _) (dk_empty s.heap I.big), rfl, h _ (I.hok.fresh (Nat.le_refl _))⟩
end

noncomputable def tPairs : List (TE × TE) → St → Hp → (List (V × V) → Hp → Prop) → Prop
  | [], _, H, Q => Q [] H
  | (tk, tv) :: r, σ, H, Q => tk σ H fun x H1 => tv σ H1 fun y H2 => tPairs r σ H2 fun ps H3 => Q ((x, y) :: ps) H3
abbrev VV : List (V × V) → List (Value × Value) → Prop := Paired fun p q => RelV p.1 q.1 ∧ RelV p.2 q.2
noncomputable def PPs (X : Cx) (pos : Pos) (keys : List (Option Expr)) (values : List Expr) (trs : List (TE × TE)) : Prop :=
  ∀ (pins : List (Addr × Obj)) (s : Shared) (σ : St) (H : Hp) (Q : List (V × V) → Hp → Prop), Inv X pins σ H s → tPairs trs σ H Q →
    wpAny (model X.prog X.w) X.A (evalPairs (pairTrees keys values X.env pos)) (fun vs s' => ∃ ps H', Inv X pins σ H' s' ∧ VV ps vs ∧ Q ps H') X.xe s
theorem pps_nil {X : Cx} {pos : Pos} : PPs X pos [] [] [] := fun pins s σ H Q I h => pairTrees_nil_walk ⟨[], H, I, .nil, h⟩
theorem pps_cons {X : Cx} {pos : Pos} {k v : Expr} {ks : List (Option Expr)} {vs : List Expr} {tk tv : TE} {trs : List (TE × TE)} (hk : PE X k tk) (hv : PE X v tv) (hr : PPs X pos ks vs trs) :
    PPs X pos (some k :: ks) (v :: vs) ((tk, tv) :: trs) := fun pins s σ H Q I h =>
  pairTrees_cons_walk (thn (hk pins s σ H _ I h) fun u s1 ⟨x, H1, I1, rx, q1⟩ => thn (hv pins s1 σ H1 _ I1 q1) fun w2 s2 ⟨y, H2, I2, ry, q2⟩ =>
    thn (hr pins s2 σ H2 _ I2 q2) fun ws s3 ⟨ps, H3, I3, rel, q3⟩ => ⟨(x, y) :: ps, H3, I3, .cons ⟨rx, ry⟩ rel, q3⟩)

noncomputable def mergeK (kvs more : List (Key × V)) : List (Key × V) := more.foldl (fun acc kv => putK acc kv.1 kv.2) kvs
theorem KV.merge : ∀ {more : List (Key × V)} {rs : List (Key × Value)} {kvs : List (Key × V)} {vs : List (Key × Value)}, KV more rs → KV kvs vs → KV (mergeK kvs more) (merged vs rs) := by
  intro more rs kvs vs r
  unfold KV at r
  induction r generalizing kvs vs with
  | nil => intro q; exact q
  | @cons p q ps qs h t ih =>
    intro r0
    have e : KV (putK kvs p.1 p.2) (stored vs q.1 q.2) := by
      have := r0.put p.1 h.2
      rw [← h.1]; exact this
    exact ih e
theorem length_mergeK : ∀ (more kvs : List (Key × V)), (mergeK kvs more).length ≤ kvs.length + more.length
  | [], kvs => by show kvs.length ≤ kvs.length + 0; omega
  | p :: r, kvs => by
    have h1 := length_mergeK r (putK kvs p.1 p.2)
    have h2 := length_putK kvs p.1 p.2
    show (mergeK (putK kvs p.1 p.2) r).length ≤ _
    rw [List.length_cons]; omega
theorem carries_of {P : Program} {w : World} : ∀ {kvs : List (Key × V)} {ws : List (Value × Value)}, VV (kvs.map fun kv => (kV kv.1, kv.2)) ws → ∃ rs, Carries (mixKind P w) ws rs ∧ KV kvs rs
  | [], _, r => by rw [List.map_nil] at r; cases r; exact ⟨[], True.intro, .nil⟩
  | p :: kvs, _, r => by
    rw [List.map_cons] at r
    cases r with
    | @cons a b as bs h t =>
      obtain ⟨rs, c, q⟩ := carries_of (P := P) (w := w) t
      obtain ⟨b1, b2⟩ := b
      exact ⟨(p.1, b2) :: rs, ⟨kV_is h.1, rfl, c⟩, .cons ⟨rfl, h.2⟩ q⟩
noncomputable def tDisp (trs : List (TE × TE)) : TE := fun σ H Q => ∀ p, H p = none → tPairs trs σ (upd H p (.dK [])) fun ps H2 => H2 p = some (.dK []) ∧ ∃ kvs : List (Key × V), ps = kvs.map (fun kv => (kV kv.1, kv.2)) ∧ kvs.length ≤ 15 ∧ Q (.ref p) (upd H2 p (.dK (mergeK [] kvs)))
theorem pe_disp {X : Cx} {pos : Pos} {keys : List (Option Expr)} {values : List Expr} {trs : List (TE × TE)} (h : PPs X pos keys values trs) (hall : keys.all (·.isSome) = true) (hl : keys.length = values.length) (h0 : keys ≠ [])
    (h15 : keys.length ≤ 15) : PE X (.Dict keys values pos) (tDisp trs) := by
  intro pins s σ H Q I q
  have hn := I.hok.fresh (Nat.le_refl s.heap.objs.size)
  have I1 := I.laid (a := s.heap.objs.size) (o := .dK []) (h' := s.heap.push { cls := .type "dict", data := .dict #[] }) (t' := s.toks) (fun _ _ q => Heap.get?_push_of_some _ q) (Nat.le_refl _) (dk_empty s.heap I.big)
  refine wpAny_Dict_walk (knd := mixKind X.prog X.w) hall hl h0 h15 (thn (h pins _ σ _ _ I1 (q _ hn)) fun ws s2 ⟨ps, H2, I2, rel, e, kvs, ep, lk, q2⟩ => ?_)
  subst ep
  obtain ⟨rs, c, rk⟩ := carries_of (P := X.prog) (w := X.w) rel
  obtain ⟨z, hd, vs0, r0, dd⟩ := dk_of I2.hok e
  cases r0
  refine ⟨rs, c, dd, fun h' dd' hs => ⟨.ref s.heap.objs.size, _, ?_, rfl, q2⟩⟩
  have hz : (mergeK [] kvs).length ≤ sizeLine := by
    have h1 := length_mergeK kvs []
    rw [List.length_nil] at h1
    rw [sizeLine_eq]; omega
  have he : ∃ q, h'.get? s.heap.objs.size = some q := let ⟨q, _, _, hq, _⟩ := dd'; ⟨q, hq⟩
  exact d_write I2 (by rw [e]; exact True.intro) hs he (dk_new hz hd (rk.merge .nil) dd')


structure M1 (X : Cx) (o : Expr) (m : Str) (apos : Pos) (e : Expr) (cpos : Pos) : Prop where
  base : attributeBase o m X.env (eval o X.env) = eval o X.env
  few : ((backTo cpos (starEach [e] X.env)).all (fun x => !x.1) && (backToKw cpos (keywordEach [] X.env)).all (fun x => x.1.isSome)
    && decide (([e] : List Expr).length + ([] : List Keyword).length + (if ([] : List Keyword).isEmpty then 0 else 1) < 30)) = true
  line : (apos.endLine == cpos.line) = true
  trees : backTo cpos (starEach [e] X.env) = [(false, eval e X.env)]
structure M2 (X : Cx) (o : Expr) (m : Str) (apos : Pos) (e f : Expr) (cpos : Pos) : Prop where
  base : attributeBase o m X.env (eval o X.env) = eval o X.env
  few : ((backTo cpos (starEach [e, f] X.env)).all (fun x => !x.1) && (backToKw cpos (keywordEach [] X.env)).all (fun x => x.1.isSome)
    && decide (([e, f] : List Expr).length + ([] : List Keyword).length + (if ([] : List Keyword).isEmpty then 0 else 1) < 30)) = true
  line : (apos.endLine == cpos.line) = true
  trees : backTo cpos (starEach [e, f] X.env) = [(false, eval e X.env), (false, eval f X.env)]

noncomputable def IsD (H : Hp) (a : Addr) : Prop := (∃ kvs, Rd H a (.dK kvs)) ∨ ∃ kvs, Rd H a (.dT kvs)
theorem isD_at {X : Cx} {pins : List (Addr × Obj)} {σ : St} {H : Hp} {s : Shared} {a : Addr} (I : Inv X pins σ H s) (d : IsD H a) :
    s.TypeIs (.ref a) "dict" ∧ (∀ b, Value.ref a = .ref b → ∃ ob, s.heap.get? b = some ob ∧ ob.dict = none) ∧ (a == sysModules) = false := by
  rcases d with ⟨kvs, e⟩ | ⟨kvs, e⟩
  · obtain ⟨_, hd, vs, _, dd⟩ := dk_rd I.hok e
    refine ⟨dd.typeIs, fun b q => ?_, hd⟩
    cases q
    obtain ⟨ob, _, _, h1, h2, _⟩ := dd
    exact ⟨ob, h1, h2.2.1⟩
  · obtain ⟨_, hd, xs, _, dd⟩ := dt_rd I.hok e
    refine ⟨dd.typeIs, fun b q => ?_, hd⟩
    cases q
    obtain ⟨ob, _, _, h1, h2, _⟩ := dd
    exact ⟨ob, h1, h2.2.1⟩

section
variable {X : Cx} {pins : List (Addr × Obj)} {σ : St} {H : Hp} {s : Shared} {a : Addr} {y d : V} {u r : Value} {o : Option V} {A : Around} {E : Value → Shared → Prop}
theorem d_get1 {Q : Value → Shared → Prop} (hu : A.units + 1 < cLine) (I : Inv X pins σ H s) (g : DGet H a y o) (ry : RelV y u) (h : ∀ w' s', Inv X pins σ H s' → RelV (o.getD .non) w' → Q w' s') :
    wpAny (model X.prog X.w) A (call (.builtin "dict.get") [.ref a, u]) Q E s := by
  rcases g with ⟨kvs, k, e, ey, l⟩ | ⟨kvs, k, b, e, ey, eb, l⟩
  · subst ey
    obtain ⟨z, hd, vs, rel, dd⟩ := dk_rd I.hok e
    refine call_meetsIn PySem.F.slot_dict_get dd.typeIs PySem.F.entry_dict_get (PySem.F.args_dict_get_2 _ _) (meets_dict_get (mixKind X.prog X.w) a (kV_is ry) hd) ⟨_, dd.mapOf, h _ _ (I.tok _) ?_⟩
    rw [l]
    exact (rel.val k).getD rfl
  · subst ey
    cases (show u = Value.ref b from ry)
    obtain ⟨z, hd, xs, rel, dd⟩ := dt_rd I.hok e
    refine call_meetsIn PySem.F.slot_dict_get dd.typeIs PySem.F.entry_dict_get (PySem.F.args_dict_get_2 _ _) (meetsH_dict_get (tupleKind (mixKind X.prog X.w)) a b hd) ⟨tupleKind_room_in1 hu, k, xs, key_of I.hok eb, dd, h _ _ (I.tok _) ?_⟩
    rw [l]
    exact (rel.val k).getD rfl
end

noncomputable def tDGet1 (td ty : TE) : TE := fun σ H Q => td σ H fun x H1 => ∃ a, x = .ref a ∧ IsD H1 a ∧ ty σ H1 fun y H2 => ∃ o, DGet H2 a y o ∧ Q (o.getD .non) H2
section
variable {X : Cx} {o e f : Expr} {apos cpos : Pos} {td ty tx : TE}
theorem pe_dget1 (hu : X.A.units + 1 < cLine) (ho : PE X o td) (he : PE X e ty) (m : M1 X o "get" apos e cpos) : PE X (.Call (.Attribute o "get" apos) [e] [] cpos) (tDGet1 td ty) := by
  intro pins s σ H Q I h
  refine wpAny_Call_method m.base m.few m.line PySem.F.plainAttrs_dict PySem.F.slot_dict_get PySem.F.type_dict_get (thn (ho pins s σ H _ I h) fun u s1 ⟨x, H1, I1, rx, a, ex, d, q1⟩ => ?_)
  subst ex
  obtain rfl : u = Value.ref a := rx
  obtain ⟨t1, t2, _⟩ := isD_at I1 d
  refine ⟨t1, t2, ?_⟩
  rw [m.trees]
  refine Calls.callWith_builtin rfl (Calls.evalArgs_plain (Calls.spliced_cons (thn (he pins s1 σ H1 _ I1 q1) fun iv s2 ⟨y, H2, I2, ry, ov, g, q2⟩ => Calls.spliced_nil ?_)))
  exact d_get1 hu I2 g ry fun w' s3 I3 rw' => ⟨_, H2, I3, rw', q2⟩
end

section
variable {X : Cx} {pins : List (Addr × Obj)} {σ : St} {H : Hp} {s : Shared} {a : Addr} {kvs : List (Key × V)} {A : Around} {E : Value → Shared → Prop}
end


section
variable {X : Cx} {pins : List (Addr × Obj)} {σ : St} {H : Hp} {s : Shared} {a : Addr} {y : V} {u : Value} {A : Around} {E : Value → Shared → Prop}
end
end L2

namespace Att
open PySem PySem.W PySem.Calls PyProof.Rows

theorem ints_of_wellAll {P : Params} {h : Heap} : ∀ (ns : List Int) (vs : List Value), WellAll P h vs (ns.map WData.int) → IntsAre vs ns := by
  intro ns
  induction ns with
  | nil =>
    intro vs w
    rw [List.map_nil] at w
    cases w
    exact .nil
  | cons n ns ih =>
    intro vs w
    rw [List.map_cons] at w
    cases w with
    | cons a b =>
      cases a
      exact .cons _ _ (ih _ b)

theorem script_of {l : OpenLaw} {n : Nat} (hn : l.most = some n) {P : Params} {h : Heap} {args : List WData} {vals : List Value}
    (hpre : l.row.toRowW.claim.pre args = true) (hwl : WellAll P h vals args) :
    ∃ a vs ns, vals = [Value.ref a] ∧ args = [WData.list (ns.map WData.int)] ∧ h.get? a = some { cls := .type "list", data := .seq vs.toArray } ∧ IntsAre vs ns ∧ ns.length ≤ n := by
  have hsh : WShape.hasAll [] args [.list .int] = true := (pre_splitW hpre).1
  have hc : l.pre.holds [] { args := args } = true := (pre_splitW hpre).2
  obtain ⟨d, r, rfl, h1, h2⟩ := hasAllW_cons hsh
  obtain rfl := hasAllW_nil h2
  obtain ⟨xs, rfl, h3⟩ := hasW_list h1
  obtain ⟨ns, rfl⟩ := items_int h3
  have hlen : ns.length ≤ n := by
    unfold OpenLaw.pre at hc
    have h4 : (WTm.not (.lt (.lit (.int (n : Int))) (.len (.arg 0)))).holds [] { args := [.list (ns.map .int)] } = true := by
      have h4 := (holds_andW hc).1
      rw [hn] at h4
      exact h4
    have h5 := condW_of h4 (w_not (w_lt w_lit (w_len_list (w_arg rfl))))
    rw [List.length_map] at h5
    refine Nat.le_of_not_lt fun q => ?_
    have q' : (n : Int) < ((ns.length : Nat) : Int) := by omega
    first
      | (rw [decide_eq_true q'] at h5; exact absurd h5 (by decide))
      | (simp at h5; omega)
  cases hwl with
  | cons w1 w2 =>
    cases w2
    cases w1 with
    | list ho hall => exact ⟨_, _, ns, rfl, rfl, ho, ints_of_wellAll ns _ hall, hlen⟩

theorem post_true (l : OpenLaw) (args : List WData) : l.row.toRowW.claim.post args (.bool true) args = true :=
  postW_of (r := l.row.toRowW) (X := (true == true))
    (show WShape.has [] (.bool true) .bool = true by first | rfl | decide | simp [WShape.has, WShape.arms, WShape.armsAll])
    (show (WTm.eq .res (.lit (.bool true))).value [] { args := args, res := some (.bool true), after := args } = some (.bool (true == true)) from w_eq_bool (w_res rfl) w_lit) rfl


theorem attach_call {l : OpenLaw} {n : Nat} {q : Program} {loose : List Str} {XP : (Str → Option Value) → Heap → Prop} {YP : World → Heap → Prop} {d : DefRec}
    (hn : l.most = some n) (hdf : d.params.defaults = [])
    (call : ∀ (w : World) (s₀ s₁ : Shared) (mg mb : Str → Option Value) (fa : Addr) (o : Obj) (pm cd doc : Value) (a : Addr) (vs : List Value) (ns : List Int),
      Ground q loose [] XP w s₀ mg mb s₁.heap → YP w s₁.heap →
      s₁.heap.get? fa = some o → o.data = .func (docDef d.name d.params d.body d.scope pm cd doc) → s₁.heap.CodeRec cd d.name → mg d.name = some (.ref fa) →
      s₁.heap.get? a = some { cls := .type "list", data := .seq vs.toArray } → IntsAre vs ns → ns.length ≤ n → s₁.gens = #[] →
      codeAny (model l.prog w) callerA (.call (.ref fa) ⟨[.ref a], []⟩) (fun r s' => r = .ok (.ret (.bool true)) ∧ OldK s₁.heap s'.heap ∧ s'.os = s₁.os ∧ AllBare s'.gens) s₁) :
    WalkO q loose XP YP l.row.toRowW d [] (fun f vs => PySem.call f vs) := by
  intro w s₀ s₁ mg mb G Y fa o pm cd doc dV kV ho hd hcd hD hmg hg args vals as hpre hlay hrd hwl hlo
  obtain rfl : dV = .none := Dflts.none hD hdf
  obtain rfl : kV = .none := Dflts.noKw hD
  obtain ⟨a, vs, ns, rfl, rfl, hobj, hints, hlen⟩ := script_of hn hpre hwl
  refine enter_call (codeAny_mono (call w s₀ s₁ mg mb fa o pm cd doc a vs ns G Y ho (fd_plain hd) hcd hmg hobj hints hlen hg) fun r s' hq => ?_)
  obtain ⟨rfl, h2, h3, h4⟩ := hq
  exact ⟨.inl ⟨.bool true, .bool true, [], rfl, fun _ => rfl, .bool true, post_true l _, fun _ => ⟨List.Pairwise.nil, fun _ hm => (nomatch hm)⟩⟩, h2, h3, h4⟩


section
variable {prog : Program} {w : World} {A : Around} {E : Value → Shared → Prop} {s : Shared} {K : Frag}






end
end Att

namespace L2
open PySem PySem.Spec PyProof.Rows

theorem vals_ints : ∀ {vs : List Value} {ns : List Int}, IntsAre vs ns → Vals (ns.map V.int) vs
  | _, _, .nil => .nil
  | _, _, .cons n t h => .cons ⟨t, rfl⟩ (vals_ints h)


end L2

namespace L2
open PySem PySem.Spec PyProof.Rows


end L2

/- THE LAST THEOREM (shape; LID, My.* are yours):
   My.Adr: a structure of the addresses that your layer names (classes, functions); My.Txt K t: a structure (Prop) of the equations over K;
   My.txt_mk : {K} {implicit addresses ..} (e1 : nsIn K mainGlobals "law" = some (some (.ref f))) (e2 : K.lookup f = some ⟨oc, od, .func (fnOf "law" "law" params body scope dV kV doc pm an cdv ct), sl⟩) (e3 : codeIn K cdv "law" = true) .. : ∃ t, My.Txt K t

(the tactic k_is has no namespace: write k_is) -/

namespace L2
open PySem PySem.Spec PyProof.Rows

noncomputable def defArgs (s : Stmt) : Arguments := match s with
  | .FunctionDef _ a _ _ _ _ _ _ _ _ => a
  | _ => { posonlyargs := [], args := [], vararg := none, kwonlyargs := [], kw_defaults := [], kwarg := none, defaults := [] }
noncomputable def defBody (s : Stmt) : List Stmt := match s with
  | .FunctionDef _ _ b _ _ _ _ _ _ _ => b
  | _ => []
noncomputable def defScope (s : Stmt) : Scope := match s with
  | .FunctionDef _ _ _ _ _ _ sc _ _ _ => sc
  | _ => { kind := .function, names := [], isGenerator := false, isCoroutine := false }

abbrev CX0 : CXT := fun _ _ _ _ _ _ => False
abbrev E0 : XK := fun _ _ _ => False
theorem pass0 {X : Cx} : Passes CX0 X E0 := fun _ _ _ _ _ _ _ h => h.elim

structure Fun (K : PySem.W.Frag) (x qual : Str) (st : Stmt) (f : Addr) (fd : FuncData) : Prop where
  ex : ∃ (oc : Value) (od : Option Addr) (kV doc pm : Value) (an : Option Addr) (cdv ct : Value) (osl : Array (Option Value)),
    fd = PySem.W.fnOf x qual (defArgs st) (defBody st) (defScope st) .none kV doc pm an cdv ct ∧ K.lookup f = some ⟨oc, od, .func fd, osl⟩ ∧ PySem.W.codeIn K cdv qual = true
  kp : PySem.W.keepIn K (.ref f) = true
section
variable {P : Program} {w : World} {K : PySem.W.Frag} {mg : Str → Option Value} {base : Heap}
theorem Fun.ok {x qual : Str} {st : Stmt} {f : Addr} {fd : FuncData} {N ps : List Str} {k : Nat} {sp : Sp} (F : Fun K x qual st f fd) (S : FnScope N ps (defScope st)) (len : ∀ vs H Q E, sp vs H Q E → vs.length = ps.length)
    (hbody : ∀ (cdv : Value) (A : Around) (outer : List Env) (s : Shared) (H : Hp) (vs : List V) (Q : VK) (E : XK), Room k (A.deeper (envOfC qual (defScope st) s.heap.objs.size f cdv)) → sp vs H Q E →
      ∃ t, PSs (cxOf CX0 P w K mg base N qual (defScope st) f cdv A outer s H E).nox (defBody st) t ∧ t { nx := fun _ H' => Q .non H', rt := Q } (start N vs) H) : FnOk P w K mg base CX0 (k + 1) f fd ps sp := by
  obtain ⟨oc, od, kV, doc, pm, an, cdv, ct, osl, rfl, lk, hcd⟩ := F.ex
  refine fn_of lk hcd S len fun A outer s H vs Q E hr hsp => ?_
  obtain ⟨t, h, q⟩ := hbody cdv A outer s H vs Q E hr hsp
  exact ⟨t, h.nox, q⟩
theorem Fun.binds {x qual : Str} {st : Stmt} {f : Addr} {fd : FuncData} {ps : List Str} (F : Fun K x qual st f fd)
    (h : ∀ (kV doc pm : Value) (an : Option Addr) (cdv ct : Value) (us : List Value), us.length = ps.length → bindArgs (PySem.W.fnOf x qual (defArgs st) (defBody st) (defScope st) .none kV doc pm an cdv ct) ⟨us, []⟩ = pure (ps.zip us)) : Binds K fd ps [] := by
  obtain ⟨oc, od, kV, doc, pm, an, cdv, ct, osl, rfl, lk, hcd⟩ := F.ex
  exact .all (h kV doc pm an cdv ct)
theorem fun_mk {x qual : Str} {st : Stmt} {f : Addr} {oc : Value} {od an : Option Addr} {osl : Array (Option Value)} {kV doc pm cdv ct : Value} (l : K.lookup f = some ⟨oc, od, .func (PySem.W.fnOf x qual (defArgs st) (defBody st) (defScope st) .none kV doc pm an cdv ct), osl⟩)
    (c : PySem.W.codeIn K cdv qual = true) (k : PySem.W.keepIn K (.ref f) = true) : Fun K x qual st f (PySem.W.fnOf x qual (defArgs st) (defBody st) (defScope st) .none kV doc pm an cdv ct) := ⟨⟨oc, od, kV, doc, pm, an, cdv, ct, osl, rfl, l, c⟩, k⟩
end
theorem hu_of {A : Around} {k : Nat} (hr : Room k A) : A.units + 1 < cLine := Nat.lt_of_le_of_lt (Nat.add_le_add_left (by decide : 1 ≤ 64) _) hr.units

section
variable {X : Cx}
theorem pv (i : Nat) {x : Str} {pos : Pos} (hN : X.N[i]? = some x := by rfl) (hv : Vis X.env.scope x := by first | exact Or.inl rfl | exact Or.inr (Or.inl rfl) | exact Or.inr (Or.inr rfl)) (hd : (x == ("__debug__" : Str)) = false := by decide)
    (hcd : (x == ("__classdict__" : Str)) = false := by decide) : PE X (.Name x pos) (tVar i) := pe_var hN hv hd hcd
end

theorem iteF {A B : Prop} (h : B) : if false = true then A else B := by
  rw [if_neg Bool.false_ne_true]
  exact h
theorem iteT {A B : Prop} (h : A) : if true = true then A else B := by
  rw [if_pos rfl]
  exact h
theorem ite2 {c A B : Prop} [Decidable c] (h1 : c → A) (h2 : ¬ c → B) : if c then A else B := by
  by_cases h : c
  · rw [if_pos h]
    exact h1 h
  · rw [if_neg h]
    exact h2 h

noncomputable def Same (H H' : Hp) : Prop := ∀ b o, H b = some o → H' b = some o
theorem Same.refl (H : Hp) : Same H H := fun _ _ h => h
theorem Same.trans {H H1 H2 : Hp} (a : Same H H1) (b : Same H1 H2) : Same H H2 := fun c o h => b c o (a c o h)
theorem Same.free {H H' : Hp} (e : Same H H') {l : Addr} (h : H' l = Option.none) : H l = Option.none := by
  cases q : H l with
  | none => rfl
  | some o =>
    rw [e l o q] at h
    cases h
theorem Same.seq {K : PySem.W.Frag} {H H' : Hp} {a : Addr} {xs : List V} (e : Same H H') (h : SqL K H a xs) : SqL K H' a xs := by
  rcases h with (h | ⟨o, h⟩) | h
  · exact .inl (.inl (e _ _ h))
  · exact .inl (.inr ⟨o, e _ _ h⟩)
  · exact .inr h

section
variable {κ : Type} [DecidableEq κ]
theorem valV_not {kvs : List (κ × V)} {k : κ} (h : valV kvs k = none) : ¬ k ∈ kvs.map (·.1) := by
  intro m
  obtain ⟨p, hp, e⟩ := List.mem_map.mp m
  have q : (kvs.any fun kv => decide (kv.1 = k)) = true := List.any_eq_true.mpr ⟨p, hp, decide_eq_true e⟩
  rw [valV_any, h] at q
  exact absurd q (by simp)
theorem valV_in {kvs : List (κ × V)} {k : κ} {v : V} (h : valV kvs k = some v) : k ∈ kvs.map (·.1) := by
  have q : (kvs.any fun kv => decide (kv.1 = k)) = true := by
    rw [valV_any, h]
    all_goals rfl
  obtain ⟨p, hp, e⟩ := List.any_eq_true.mp q
  exact List.mem_map.mpr ⟨p, hp, of_decide_eq_true e⟩
end
section
variable {X : Cx}
end
end L2
set_option Elab.async false
set_option linter.all false
set_option maxRecDepth 100000
set_option maxHeartbeats 4000000
namespace L2
open PySem PySem.Spec PyProof.Rows

noncomputable def wk : St → St → Prop
  | [], [] => True
  | none :: a, _ :: b => wk a b
  | some x :: a, y :: b => y = some x ∧ wk a b
  | _, _ => False
theorem wk_len : ∀ {a b : St}, wk a b → a.length = b.length
  | [], [], _ => rfl
  | [], _ :: _, h => h.elim
  | none :: _, [], h => h.elim
  | some _ :: _, [], h => h.elim
  | none :: a, _ :: b, h => congrArg (· + 1) (wk_len (a := a) (b := b) h)
  | some _ :: a, _ :: b, h => congrArg (· + 1) (wk_len (a := a) (b := b) h.2)
theorem wk_get : ∀ {a b : St}, wk a b → ∀ (i : Nat) (v : V), a[i]? = some (some v) → b[i]? = some (some v)
  | [], [], _, i, v, e => by simp at e
  | [], _ :: _, h, _, _, _ => h.elim
  | none :: _, [], h, _, _, _ => h.elim
  | some _ :: _, [], h, _, _, _ => h.elim
  | none :: a, y :: b, h, 0, v, e => by simp at e
  | none :: a, y :: b, h, i + 1, v, e => by
    have := wk_get (a := a) (b := b) h i v (by simpa using e)
    simpa using this
  | some x :: a, y :: b, h, 0, v, e => by
    have e' : x = v := by simpa using e
    subst e'
    rw [h.1]; rfl
  | some x :: a, y :: b, h, i + 1, v, e => by
    have := wk_get (a := a) (b := b) h.2 i v (by simpa using e)
    simpa using this

noncomputable def clsOf (env : Env) : List (Str × NameKind) → List (Str × Addr) → List (Str × Addr)
  | [], acc => acc
  | (n, k) :: r, acc => clsOf env r (if (k == .free) = true then (n, (env.cells.lookup n).getD 0) :: acc else acc)
theorem closure_go {env : Env} : ∀ (ns : List (Str × NameKind)) (acc : List (Str × Addr)), (∀ y ∈ ns, y.2 = .free → ∃ c, env.cells.lookup y.1 = some c) →
    (forIn ns acc (fun x r => match x with
      | (name, kind) => if (kind == NameKind.free) = true then (do let c ← cellOf env name; pure (ForInStep.yield ((name, c) :: r))) else pure (ForInStep.yield r)) : Sem (List (Str × Addr))) = pure (clsOf env ns acc)
  | [], acc, _ => rfl
  | (n, k) :: r, acc, h => by
    rw [List.forIn_cons]
    have ih := fun a => closure_go (env := env) r a fun y hy => h y (List.mem_cons_of_mem _ hy)
    by_cases hk : (k == NameKind.free) = true
    · obtain ⟨c, hc⟩ := h (n, k) List.mem_cons_self (by simpa using hk)
      have e1 : cellOf env n = pure c := by unfold cellOf; rw [hc]
      simp only [hk, if_true, e1, pure_bind]
      unfold clsOf
      simp only [hk, if_true, hc, Option.getD_some]
      exact ih _
    · simp only [hk, if_false, pure_bind]
      unfold clsOf
      simp only [hk, if_false]
      exact ih _
theorem closure_eq {scope : Scope} {env : Env} (h : ∀ y ∈ scope.names, y.2 = .free → ∃ c, env.cells.lookup y.1 = some c) : closureFor scope env = pure (clsOf env scope.names []) := by
  have e := closure_go scope.names [] h
  unfold closureFor
  first
    | (rw [show (forIn scope.names ([] : List (Str × Addr)) _ : Sem (List (Str × Addr))) = pure (clsOf env scope.names []) from e]; rfl)
    | (simp only [bind_pure]; exact e)
    | exact (congrArg (· >>= pure) e)
theorem clsOf_mem {env : Env} : ∀ (ns : List (Str × NameKind)) (acc : List (Str × Addr)) (n : Str) (a : Addr), (n, a) ∈ clsOf env ns acc → (n, a) ∈ acc ∨ (a = (env.cells.lookup n).getD 0 ∧ (n, NameKind.free) ∈ ns)
  | [], acc, n, a, h => .inl h
  | (m, k) :: r, acc, n, a, h => by
    unfold clsOf at h
    by_cases hk : (k == NameKind.free) = true
    · rw [if_pos hk] at h
      rcases clsOf_mem r _ n a h with q | ⟨q1, q2⟩
      · rcases List.mem_cons.mp q with q | q
        · cases q
          have hk' : k = .free := by simpa using hk
          subst hk'
          exact .inr ⟨rfl, List.mem_cons_self⟩
        · exact .inl q
      · exact .inr ⟨q1, List.mem_cons_of_mem _ q2⟩
    · rw [if_neg hk] at h
      rcases clsOf_mem r _ n a h with q | ⟨q1, q2⟩
      · exact .inl q
      · exact .inr ⟨q1, List.mem_cons_of_mem _ q2⟩
theorem clsOf_acc {env : Env} : ∀ (ns : List (Str × NameKind)) (acc : List (Str × Addr)) (p : Str × Addr), p ∈ acc → p ∈ clsOf env ns acc
  | [], _, _, h => h
  | (m, k) :: r, acc, p, h => by
    unfold clsOf
    refine clsOf_acc r _ p ?_
    split
    · exact List.mem_cons_of_mem _ h
    · exact h
theorem clsOf_free {env : Env} : ∀ (ns : List (Str × NameKind)) (acc : List (Str × Addr)) (n : Str), (n, NameKind.free) ∈ ns → (n, (env.cells.lookup n).getD 0) ∈ clsOf env ns acc
  | [], _, _, h => nomatch h
  | (m, k) :: r, acc, n, h => by
    unfold clsOf
    rcases List.mem_cons.mp h with q | q
    · cases q
      refine clsOf_acc r _ _ ?_
      rw [if_pos (by rfl)]
      exact List.mem_cons_self
    · exact clsOf_free r _ n q
theorem lookup_mem {α β : Type} [BEq α] [LawfulBEq α] : ∀ {l : List (α × β)} {x : α} {y : β}, l.lookup x = some y → (x, y) ∈ l
  | [], _, _, h => by simp at h
  | (a, b) :: r, x, y, h => by
    rw [List.lookup_cons] at h
    by_cases e : (x == a) = true
    · rw [e] at h
      have e' : x = a := by simpa using e
      have h' : b = y := by simpa using h
      subst e' h'
      exact List.mem_cons_self
    · have e2 : (x == a) = false := by simpa using e
      rw [e2] at h
      exact List.mem_cons_of_mem _ (lookup_mem (by simpa using h))
theorem lookup_of_mem {α β : Type} [BEq α] [LawfulBEq α] : ∀ {l : List (α × β)} {x : α} {y : β}, (x, y) ∈ l → ∃ z, l.lookup x = some z
  | [], _, _, h => nomatch h
  | (a, b) :: r, x, y, h => by
    rw [List.lookup_cons]
    by_cases e : (x == a) = true
    · rw [e]; exact ⟨b, rfl⟩
    · have e2 : (x == a) = false := by simpa using e
      rw [e2]
      rcases List.mem_cons.mp h with q | q
      · cases q; simp at e
      · exact lookup_of_mem q
theorem cls_look {env : Env} {ns : List (Str × NameKind)} {x : Str} {c : Addr} (h : (clsOf env ns []).lookup x = some c) (hall : ∀ y ∈ ns, y.2 = .free → ∃ c, env.cells.lookup y.1 = some c) : env.cells.lookup x = some c := by
  rcases clsOf_mem ns [] x c (lookup_mem h) with q | ⟨q1, q2⟩
  · nomatch q
  · obtain ⟨c', hc⟩ := hall _ q2 rfl
    have hc' : env.cells.lookup x = some c' := hc
    rw [hc'] at q1
    rw [hc', q1]; rfl
theorem cls_has {env : Env} {ns : List (Str × NameKind)} {x : Str} (h : (x, NameKind.free) ∈ ns) : ∃ c, (clsOf env ns []).lookup x = some c := lookup_of_mem (clsOf_free ns [] x h)

noncomputable def Cx.block (X : Cx) (N : List Str) (scope : Scope) (C : Addr) (s : Shared) (H : Hp) (fp : List Addr) : Cx :=
  { X with N := N, s₀ := s, H₀ := H, env := compEnvC scope (clsOf X.env scope.names []) C X.env, outer := X.stack, ex := fp, fn := fun _ => false, pn := [], xe := fun _ _ => False }
theorem relabel_kind {scope : Scope} {env : Env} {x : Str} {k : NameKind} (h : (relabel scope env).names.lookup x = some k) : ∃ k', scope.names.lookup x = some k' ∧ (k = k' ∨ (k' = .free ∧ k = .cell)) := by
  unfold relabel at h
  generalize scope.names = ns at h
  induction ns with
  | nil => simp at h
  | cons p r ih =>
    obtain ⟨n, k0⟩ := p
    rw [List.map_cons] at h
    by_cases e : (x == n) = true
    · refine ⟨k0, by rw [List.lookup_cons, e], ?_⟩
      by_cases c : (k0 == NameKind.free && env.scope.kind == .function && env.kindOf n == some .cell) = true
      · have h1 : some NameKind.cell = some k := by
          have h2 := h
          simp only [c, if_true] at h2
          rw [List.lookup_cons, e] at h2
          exact h2
        have h3 : k0 = .free := by
          simp only [Bool.and_eq_true, beq_iff_eq] at c
          exact c.1.1
        exact .inr ⟨h3, (Option.some.inj h1).symm⟩
      · have h1 : some k0 = some k := by
          have h2 := h
          simp only [c, Bool.false_eq_true, if_false] at h2
          rw [List.lookup_cons, e] at h2
          exact h2
        exact .inl (Option.some.inj h1).symm
    · have e2 : (x == n) = false := by simpa using e
      rw [List.lookup_cons, e2]
      refine ih ?_
      by_cases c : (k0 == NameKind.free && env.scope.kind == .function && env.kindOf n == some .cell) = true
      · have h2 := h
        simp only [c, if_true] at h2
        rw [List.lookup_cons, e2] at h2
        exact h2
      · have h2 := h
        simp only [c, Bool.false_eq_true, if_false] at h2
        rw [List.lookup_cons, e2] at h2
        exact h2
theorem relabel_free {scope : Scope} {env : Env} {x : Str} (h : scope.names.lookup x = some .free) : (relabel scope env).names.lookup x = some .cell ∨ (relabel scope env).names.lookup x = some .free := by
  unfold relabel
  show List.lookup x (scope.names.map _) = _ ∨ List.lookup x (scope.names.map _) = _
  generalize scope.names = ns at h
  induction ns with
  | nil => simp at h
  | cons p r ih =>
    obtain ⟨n, k0⟩ := p
    rw [List.map_cons]
    by_cases e : (x == n) = true
    · rw [List.lookup_cons, e] at h
      have h' : k0 = .free := by simpa using h
      subst h'
      by_cases c : (NameKind.free == NameKind.free && env.scope.kind == .function && env.kindOf n == some .cell) = true
      · left
        simp only [c, if_true]
        rw [List.lookup_cons, e]
      · right
        simp only [c, Bool.false_eq_true, if_false]
        rw [List.lookup_cons, e]
    · have e2 : (x == n) = false := by simpa using e
      rw [List.lookup_cons, e2] at h
      have h3 := ih h
      by_cases c : (k0 == NameKind.free && env.scope.kind == .function && env.kindOf n == some .cell) = true
      · simp only [c, if_true]
        rw [List.lookup_cons, e2]
        exact h3
      · simp only [c, Bool.false_eq_true, if_false]
        rw [List.lookup_cons, e2]
        exact h3

noncomputable def PIfs (X : Cx) (ifs : List Expr) (t : TT) : Prop :=
  ∀ (pins : List (Addr × Obj)) (s : Shared) (σ : St) (H : Hp) (Q : Bool → Hp → Prop), Inv X pins σ H s → t σ H Q →
    wpAny (model X.prog X.w) X.A (forIn ifs true fun c r => if r = true then do let ok ← isTrue c X.env (eval c X.env); pure (ForInStep.yield ok) else pure (ForInStep.yield r)) (TP X pins σ Q) X.xe s
noncomputable def tYes : TT := fun _ H Q => Q true H
theorem pifs_nil {X : Cx} : PIfs X [] tYes := fun _ _ _ H _ I h => wpAny_tests_nil ⟨H, I, h⟩
theorem pifs_one {X : Cx} {c : Expr} {t : TT} (h : PT X c t) : PIfs X [c] t := fun pins s σ H Q I hw => wpAny_tests_one (h pins s σ H Q I hw)

theorem compLoop_any {prog : Program} {w : World} {A : Around} {R : Result → Shared → Prop} {s : Shared} {elt target iter : Expr} {ifs : List Expr} {scope : Scope} {pos : Pos} {it acc : Value} {env : Env} (I : Nat → Shared → Prop)
    (turn : ∀ n s, I n s → wpAny (model prog w) A (pyNext it) (fun r s1 => match r with
      | none => R (.ok .next) s1
      | some v => wpAny (model prog w) A (letOwnedTupleGo target it v) (fun _ s2 => wpAny (model prog w) A (assign target env v) (fun _ s3 =>
          wpAny (model prog w) A (forIn ifs true fun c r => if r = true then do let ok ← isTrue c env (eval c env); pure (ForInStep.yield ok) else pure (ForInStep.yield r)) (fun ok s4 =>
            if ok = true then wpAny (model prog w) A (eval elt env) (fun x s5 =>
              wpAny (model prog w) A (call (.builtin "list.append") [acc, x]) (fun _ s6 => ∃ m, m < n ∧ I m s6) (fun _ _ => False) s5) (fun _ _ => False) s4
            else ∃ m, m < n ∧ I m s4) (fun _ _ => False) s3) (fun _ _ => False) s2) (fun _ _ => False) s1) (fun _ _ => False) s)
    (n : Nat) (h : I n s) : codeAny (model prog w) A (.compLoop (.ListComp elt [⟨target, iter, ifs, 0⟩] scope pos) 0 it acc env) R s := by
  refine codeAny_loop rfl I (fun n s hI => ?_) n h
  show wpAny _ A ((compTurn (.ListComp elt [⟨target, iter, ifs, 0⟩] scope pos) 0 it acc env).onRaise (fun x => do noteFrame x env; theTreesLotGoes x)) _ _ s
  refine wpAny_noted ?_
  rw [compTurn_list]
  have no : ∀ {E : Value → Shared → Prop}, ∀ e s', (fun (_ : Value) (_ : Shared) => False) e s' → E e s' := fun _ _ z => False.elim z
  refine wpAny_bind (wpAny_standAt (wpAny_bind (wpAny_mono (turn n s hI) (fun r s1 h1 => ?_) no)))
  cases r with
  | none => exact wpAny_pure h1
  | some v =>
    refine wpAny_bind (wpAny_mono h1 (fun _ s2 h2 => ?_) no)
    refine wpAny_bind (wpAny_mono h2 (fun _ s3 h3 => wpAny_bind (wpAny_mono h3 (fun ok s4 h4 => ?_) no)) no)
    cases ok with
    | false => exact wpAny_pure ⟨rfl, h4⟩
    | true =>
      exact wpAny_bind (wpAny_bind (wpAny_mono h4 (fun x s5 h5 => wpAny_bind (wpAny_mono h5 (fun _ s6 h6 => wpAny_pure (wpAny_pure ⟨rfl, h6⟩)) no)) no))

noncomputable def blockSt (tgs : List Str) (cap : List (Str × Nat)) (σ : St) : St := tgs.map (fun _ => none) ++ cap.map fun c => (σ[c.2]?).join
noncomputable def tComp (wi : TI) (g : TG) (tt : TT) (te : TE) (f : St → St) : TE := fun σ H Q => wi σ H fun J H1 => ∀ D, H1 D = none → ∃ W : Nat → Nat → Hp → List V → Prop, (∃ m, W 0 m (upd H1 D (.lst [])) []) ∧
  ∀ i m H ys, W i m H ys → H D = some (.lst ys) ∧ ((J.stop i H ∧ Q (.ref D) H) ∨ (J.go i H ∧ ∀ x H', J.yld i H x H' → g x (f σ) H' fun σ2 H2 => wk (f σ) σ2 ∧ tt σ2 H2 fun b H3 =>
    if b = true then te σ2 H3 fun v H4 => H4 D = some (.lst ys) ∧ ys.length < sizeLine ∧ ∃ m', m' < m ∧ W (i + 1) m' (upd H4 D (.lst (ys ++ [v]))) (ys ++ [v])
    else ∃ m', m' < m ∧ W (i + 1) m' H3 ys))

structure BlockOk (X : Cx) (scope : Scope) (tgs : List Str) (cap : List (Str × Nat)) : Prop where
  kind : scope.kind = .function
  nocell : (scope.names.all fun y => !(y.2 == NameKind.cell)) = true
  names : (scope.names.all fun y => !(y.2 == NameKind.local) || (scope.names.lookup y.1 == some .local)) = true
  free : (scope.names.all fun y => !(y.2 == NameKind.free) || (X.env.scope.names.lookup y.1 == some .cell) || (X.env.scope.names.lookup y.1 == some .free)) = true
  caps : (cap.all fun c => decide (X.N[c.2]? = some c.1) && (scope.names.lookup c.1 == some .free) && (decide (X.env.scope.names.lookup c.1 = some .cell) || decide (X.env.scope.names.lookup c.1 = some .free))) = true
  tgl : (tgs.all fun x => (scope.names.lookup x == some .local)) = true
section
variable {X : Cx} {scope : Scope} {tgs : List Str} {cap : List (Str × Nat)}
theorem BlockOk.cellAt (B : BlockOk X scope tgs cap) (ok : X.Ok) : ∀ y ∈ scope.names, y.2 = .free → ∃ c, X.env.cells.lookup y.1 = some c := fun y hy hk => by
  have q := List.all_eq_true.mp B.free y hy
  rw [hk] at q
  refine ok.has y.1 ?_
  simp only [beq_self_eq_true, Bool.not_true, Bool.false_or, Bool.or_eq_true, beq_iff_eq] at q
  exact q
theorem BlockOk.noc (B : BlockOk X scope tgs cap) : ∀ y ∈ scope.names, y.2 ≠ .cell := fun y hy hk => by
  have q := List.all_eq_true.mp B.nocell y hy
  rw [hk] at q
  simp at q
theorem BlockOk.locs (B : BlockOk X scope tgs cap) : ∀ y ∈ scope.names, y.2 = .local → scope.names.lookup y.1 = some .local := fun y hy hk => by
  have q := List.all_eq_true.mp B.names y hy
  rw [hk] at q
  simpa using q

theorem Inv.enter {pins : List (Addr × Obj)} {σ : St} {H : Hp} {s : Shared} {h1 : Heap} {tk : Nat} {fp : List Addr} (B : BlockOk X scope tgs cap) (I : Inv X pins σ H s) (hfp : ∀ b ∈ fp, FpOk X pins H b) (hlt : ∀ b ∈ fp, b < s.heap.objs.size)
    (hns : h1.Ns s.heap.objs.size (fun _ => none)) (old : ∀ b o, s.heap.get? b = some o → h1.get? b = some o) :
    Inv (X.block (tgs ++ cap.map (·.1)) scope s.heap.objs.size s H fp) [] (blockSt tgs cap σ) H { s with heap := h1, toks := tk } := by
  have cellsIn : ∀ x c, (clsOf X.env scope.names []).lookup x = some c → X.env.cells.lookup x = some c := fun x c e => cls_look e (B.cellAt I.ok)
  have kindIn : ∀ x, ((relabel scope X.env).names.lookup x = some .cell ∨ (relabel scope X.env).names.lookup x = some .free) → (x, NameKind.free) ∈ scope.names := fun x hx => by
    have go : ∀ k, (relabel scope X.env).names.lookup x = some k → (k = .cell ∨ k = .free) → (x, NameKind.free) ∈ scope.names := fun k hk hc => by
      obtain ⟨k', e1, e2⟩ := relabel_kind hk
      have m := lookup_mem e1
      rcases e2 with e2 | ⟨e2, _⟩
      · subst e2
        rcases hc with z | z
        · exact absurd z (B.noc _ m)
        · subst z; exact m
      · subst e2; exact m
    rcases hx with h | h
    · exact go _ h (.inl rfl)
    · exact go _ h (.inr rfl)
  have nocl : ∀ x c, X.env.cells.lookup x = some c → c ≠ s.heap.objs.size := fun x c e => by
    obtain ⟨v, q⟩ := I.cell x c e
    exact Nat.ne_of_lt q.lt
  refine ⟨⟨I.ok.mod, ?_, I.ok.glob, I.ok.blt, Nat.le_refl _, fun x y c e1 e2 => I.ok.inj x y c (cellsIn x c e1) (cellsIn y c e2), fun x hx => ?_, fun x c hf _ => absurd (show false = true from hf) Bool.false_ne_true, I.ok.hd, I.ok.frames, .inl rfl,
    fun b hb => ⟨Nat.ne_of_lt (hlt b hb), fun x c e => ?_⟩, I.bs, Nat.le_trans I.ok.bsz I.sz, fun b o e hb => ?_, fun b hb hf => ?_, I.stack, I.stkFree⟩,
    rfl, I.bare, Un.kept old, ⟨_, hns, fun i x v h2 h3 h4 => ?_⟩, fun x c e => ?_, ?_, fun x c e => I.freeC x c (cellsIn x c e), fun p hp => absurd (show p ∈ ([] : List (Addr × Obj)) from hp) (by simp), I.hok.kept old, ?_⟩
  · exact B.kind
  · exact cls_has (kindIn x hx)
  · exact (hfp b hb).2.2.2.2.1 x c (cellsIn x c e)
  · -- no object of the base is an iterator of ours
    rcases (hfp b hb).2.2.2.1 with z | z
    · exact I.ok.noex b o e z
    · have q := I.ok.bs b o e
      exact absurd (Nat.lt_of_lt_of_le (Heap.lt_size q.1) z) (Nat.lt_irrefl _)
  · have hf' : b ∈ frs X.stack := hf
    rcases List.mem_cons.mp (I.stkSub b hf') with z | z
    · exact (hfp b hb).2.1 z
    · exact (hfp b hb).2.2.1 z
  · -- a name that is known: one of the captured ones
    have hi : tgs.length ≤ i := by
      by_cases hl : i < tgs.length
      · exfalso
        unfold blockSt at h3
        rw [List.getElem?_append_left (by simpa using hl), List.getElem?_map] at h3
        cases e : tgs[i]? with
        | none => rw [e] at h3; cases h3
        | some z => rw [e] at h3; cases h3
      · omega
    unfold blockSt at h3
    rw [List.getElem?_append_right (by simpa using hi), List.length_map, List.getElem?_map] at h3
    have h2' : (tgs ++ cap.map (·.1))[i]? = some x := h2
    rw [List.getElem?_append_right hi, List.getElem?_map] at h2'
    cases e : cap[i - tgs.length]? with
    | none => rw [e] at h2'; cases h2'
    | some c =>
      rw [e] at h2' h3
      have hx : c.1 = x := by simpa using h2'
      have hv : (σ[c.2]?).join = some v := by simpa using h3
      have hm : c ∈ cap := List.mem_of_getElem? e
      have q := List.all_eq_true.mp B.caps c hm
      simp only [Bool.and_eq_true, decide_eq_true_eq, beq_iff_eq, Bool.or_eq_true] at q
      obtain ⟨⟨q1, q2⟩, q3⟩ := q
      have hσ : σ[c.2]? = some (some v) := by
        cases z : σ[c.2]? with
        | none => rw [z] at hv; cases hv
        | some o =>
          rw [z] at hv
          have : o = some v := by simpa using hv
          rw [this]
      obtain ⟨m, _, hl⟩ := I.loc
      obtain ⟨u, r, l⟩ := hl c.2 c.1 v q1 hσ (by
        rcases q3 with z | z
        · exact .inr (.inl z)
        · exact .inr (.inr z))
      subst hx
      refine ⟨u, r, .inr ⟨relabel_free q2, ?_⟩⟩
      have nl : ¬ X.env.kindOf c.1 = some .local := fun z => by
        rcases q3 with y | y
        · have : X.env.kindOf c.1 = some .cell := y
          rw [this] at z; cases z
        · have : X.env.kindOf c.1 = some .free := y
          rw [this] at z; cases z
      rcases l with ⟨l1, _⟩ | ⟨_, d, l2, l3⟩
      · exact absurd l1 nl
      · obtain ⟨d', e'⟩ := cls_has (env := X.env) (lookup_mem q2)
        have : d = d' := Option.some.inj (l2.symm.trans (cellsIn _ _ e'))
        subst this
        obtain ⟨oc, ho, hd⟩ := l3
        exact ⟨d, e', oc, old d oc ho, hd⟩
  · obtain ⟨v, oc, ho, hd⟩ := I.cell x c (cellsIn x c e)
    exact ⟨v, oc, old c oc ho, hd⟩
  · exact I.hok.fresh (Nat.le_refl _)
  · unfold blockSt
    show _ = (tgs ++ cap.map (·.1)).length
    simp

theorem Inv.leave {pins : List (Addr × Obj)} {σ σ' : St} {H H' : Hp} {s s' : Shared} {h2 : Heap} {fp : List Addr} {N : List Str} (I : Inv X pins σ H s) (hfp : ∀ b ∈ fp, FpOk X pins H b)
    (J : Inv (X.block N scope s.heap.objs.size s H fp) [] σ' H' s') (hs : Heap.SameBut s.heap.objs.size s'.heap h2) : Inv X pins σ H' { s' with heap := h2 } := by
  have u : Un (frs X.stack) fp H H' s.heap s'.heap := J.base
  have ne : ∀ b o, s.heap.get? b = some o → b ≠ s.heap.objs.size := fun b o e => Nat.ne_of_lt (Heap.lt_size e)
  have hf : H' s.heap.objs.size = none := J.free
  have k : ∀ b o, b ≠ s.heap.objs.size → s'.heap.get? b = some o → h2.get? b = some o := fun b o hb e => (hs.2 b hb).trans e
  have u2 : Un (frs X.stack) fp H H' s.heap h2 :=
    ⟨fun b o e n h1 h3 => k b o (ne b o e) (u.keep b o e n h1 h3), fun b o e n h1 h3 => let ⟨sl, q⟩ := u.slot b o e n h1 h3; ⟨sl, k b _ (ne b o e) q⟩, u.free, fun b o e h3 => let ⟨o', q⟩ := u.there b o e h3; ⟨o', k b o' (ne b o e) q⟩, u.tups, u.frzs, u.tbls⟩
  have hok : HOk X.prog X.w H' h2 := fun b ob e => (J.hok b ob e).stay (fun c v hc q => k c v (by
    rcases hc with z | z
    · subst z
      intro y
      rw [y, hf] at e; cases e
    · intro y
      rw [y, hf] at z; cases z) q) (fun _ q => q) fun _ _ q => q
  exact Inv.call' I (s' := { s' with heap := h2 }) J.os u2 hok J.bare fun b hb => by
    obtain ⟨f0, f1, f2, f3, f4, f5⟩ := hfp b hb
    exact ⟨f3, f1, f4, f5⟩

theorem pe_lc {elt tg iter : Expr} {ifs : List Expr} {pos : Pos} {wi : TI} {g : TG} {tt : TT} {te : TE} (hc : X.calm = true) (B : BlockOk X scope tgs cap) (hi : PI X tg iter wi)
    (hg : ∀ C s H fp, PG (X.block (tgs ++ cap.map (·.1)) scope C s H fp) tg g) (ht : ∀ C s H fp, PIfs (X.block (tgs ++ cap.map (·.1)) scope C s H fp) ifs tt) (he : ∀ C s H fp, PE (X.block (tgs ++ cap.map (·.1)) scope C s H fp) elt te)
    (hs : ∀ x, foldedSetIterable iter X.env x = pure x := by intro _; rfl) : PE X (.ListComp elt [⟨tg, iter, ifs, 0⟩] scope pos) (tComp wi g tt te (blockSt tgs cap)) := by
  intro pins s σ H Q I h
  rw [eval_ListComp]
  refine wpAny_comprehension_free (use := none) rfl hs (closure_eq (B.cellAt I.ok)) B.kind B.locs (thn (hi pins s σ H _ I h) fun v s1 h1 => thn h1 fun itv s2 h2 => ?_)
  obtain ⟨it, fp, tn, J, H2, e, I2, T, st2, f2, q⟩ := h2
  subst e
  have lt2 : ∀ b ∈ fp, b < s2.heap.objs.size := fun b hb => let ⟨o, e, _⟩ := T.obj _ _ st2 b hb; Heap.lt_size e
  have hD : H2 s2.heap.objs.size = none := I2.hok.fresh (Nat.le_refl _)
  obtain ⟨W, ⟨m0, w0⟩, turn⟩ := q s2.heap.objs.size hD
  refine wpAny_newObj_type ?_
  have I3 : Inv X pins σ (upd H2 s2.heap.objs.size (.lst [])) { s2 with heap := s2.heap.push { cls := .type "list", dict := none, data := .seq ([] : List Value).toArray } } := I2.lnew (t' := s2.toks) (ys := []) (its := []) .nil (Nat.zero_le _)
  have st3 : tn 0 (s2.heap.push { cls := .type "list", dict := none, data := .seq ([] : List Value).toArray }) := T.keep _ _ _ st2 fun b _ o e => Heap.get?_push_of_some _ e
  have nD : ∀ b ∈ fp, b ≠ s2.heap.objs.size := fun b hb => Nat.ne_of_lt (lt2 b hb)
  have f3 : ∀ b ∈ fp, FpOk X pins (upd H2 s2.heap.objs.size (.lst [])) b := fun b hb => ⟨by rw [upd_ne (nD b hb)]; exact (f2 b hb).1, (f2 b hb).2⟩
  generalize hs3 : ({ s2 with heap := s2.heap.push { cls := .type "list", dict := none, data := .seq ([] : List Value).toArray } } : Shared) = s3 at I3 st3 ⊢
  have st3' : tn 0 s3.heap := by rw [← hs3]; exact st3
  have lt3 : ∀ b ∈ fp, b < s3.heap.objs.size := fun b hb => let ⟨o, e, _⟩ := T.obj _ _ st3' b hb; Heap.lt_size e
  generalize hH3 : upd H2 s2.heap.objs.size (.lst []) = H3 at I3 f3 w0
  generalize s2.heap.objs.size = D at *
  refine wpAny_newFunctionEnv B.noc (by intro y hy; simp at hy) (fun h1 hns hsb => ?_) B.kind
  have old : ∀ b o, s3.heap.get? b = some o → h1.get? b = some o := fun b o e => hsb.extBut b o (Nat.ne_of_lt (Heap.lt_size e)) (Heap.get?_push_of_some _ e)
  have I4 := Inv.enter (tk := s3.toks + ([] : List (Str × Value)).length) (h1 := h1) B I3 f3 lt3 hns old
  have st4 : tn 0 h1 := T.keep _ _ _ st3' fun b _ o e => old b o e
  have fpB : ∀ {H' : Hp}, (∀ b ∈ fp, H' b = none) → ∀ b ∈ fp, FpOk (X.block (tgs ++ cap.map (·.1)) scope s3.heap.objs.size s3 H3 fp) [] H' b := fun {H'} hn b hb =>
    ⟨hn b hb, Nat.ne_of_lt (lt3 b hb), I4.ok.exfs b hb, .inl hb, fun x c e => (I4.ok.exf b hb).2 x c e, fun p hp => absurd (show p ∈ ([] : List (Addr × Obj)) from hp) (by simp)⟩
  have loop : codeAny (model X.prog X.w) X.A (.compLoop (.ListComp elt [⟨tg, iter, ifs, 0⟩] scope pos) 0 (.ref it) (.ref D) (compEnvC scope (clsOf X.env scope.names []) s3.heap.objs.size X.env))
      (compPost (model X.prog X.w) X.A X.xe none (EP X pins σ Q) (.ref D) s3.heap.objs.size) { s3 with heap := h1, toks := s3.toks + ([] : List (Str × Value)).length } := by
    refine compLoop_any (fun n s' => ∃ i H' ys, Inv (X.block (tgs ++ cap.map (·.1)) scope s3.heap.objs.size s3 H3 fp) [] (blockSt tgs cap σ) H' s' ∧ tn i s'.heap ∧ (∀ b ∈ fp, H' b = none) ∧ W i n H' ys) ?_ m0 ⟨0, H3, [], I4, st4, fun b hb => (f3 b hb).1, w0⟩
    rintro n s5 ⟨i, H5, ys, I5, st5, fr5, w5⟩
    obtain ⟨hl, ht5⟩ := turn i n H5 ys w5
    rcases ht5 with ⟨stop, qd⟩ | ⟨go, step⟩
    · refine thn (T.done (X.block (tgs ++ cap.map (·.1)) scope s3.heap.objs.size s3 H3 fp) rfl rfl rfl hc i [] s5 _ H5 _ I5 (fpB fr5) st5 stop) fun r s6 ⟨hr, I6⟩ => ?_
      subst hr
      obtain ⟨m6, n6, _⟩ := I6.loc
      exact ⟨m6, n6, fun h' hs' => ⟨.ref D, H5, Inv.leave I3 f3 I6 hs', rfl, qd⟩⟩
    · refine thn (T.item (X.block (tgs ++ cap.map (·.1)) scope s3.heap.objs.size s3 H3 fp) rfl rfl rfl hc i [] s5 _ H5 _ I5 (fpB fr5) st5 go) fun r s6 ⟨u, hr, h6⟩ => ?_
      subst hr
      refine thn h6 fun _ s7 ⟨x, H7, I7, r7, y7, st7, fr7⟩ => ?_
      have I7' := I7.pinned (fpB fr7) (T.obj _ _ st7)
      have again : ∀ {σ8 : St} {H8 : Hp} {s8 : Shared} {ys8 : List V}, Inv (X.block (tgs ++ cap.map (·.1)) scope s3.heap.objs.size s3 H3 fp) ([] ++ pinsAt fp s7.heap) σ8 H8 s8 → wk (blockSt tgs cap σ) σ8 → (∃ m', m' < n ∧ W (i + 1) m' H8 ys8) →
          ∃ m, m < n ∧ ∃ i H' ys, Inv (X.block (tgs ++ cap.map (·.1)) scope s3.heap.objs.size s3 H3 fp) [] (blockSt tgs cap σ) H' s8 ∧ tn i s8.heap ∧ (∀ b ∈ fp, H' b = none) ∧ W i m H' ys := fun {σ8 H8 s8 ys8} I8 k8 ⟨m', hm, w8⟩ => by
        refine ⟨m', hm, i + 1, H8, ys8, I8.unpinned.weak (wk_len k8) (wk_get k8), T.keep _ _ _ st7 fun b hb o e => (I8.pin (b, o) (List.mem_append_right _ (List.mem_append_right _ (mem_pinsAt hb e)))).1, fun b hb => ?_, w8⟩
        obtain ⟨o, e, d⟩ := T.obj _ _ st7 b hb
        exact (I8.pin (b, o) (List.mem_append_right _ (List.mem_append_right _ (mem_pinsAt hb e)))).2.1
      refine thn (hg _ _ _ _ _ s7 _ H7 x u _ I7' r7 (step x H7 y7)) fun _ s8 ⟨σ8, H8, I8, k8, q8⟩ => ?_
      refine thn (ht _ _ _ _ _ s8 σ8 H8 _ I8 q8) fun ok s9 ⟨H9, I9, q9⟩ => ?_
      cases ok with
      | false =>
        rw [if_neg Bool.false_ne_true] at q9 ⊢
        exact again I9 k8 q9
      | true =>
        rw [if_pos rfl] at q9 ⊢
        refine thn (he _ _ _ _ _ s9 σ8 H9 _ I9 q9) fun y sA ⟨yv, HA, IA, rA, hA, zA, qA⟩ => ?_
        exact thn (mt_append _ sA σ8 HA (.ref D) [yv] (.ref D) [y] (fun v H' => v = .non ∧ ∃ m', m' < n ∧ W (i + 1) m' H' (ys ++ [yv])) IA rfl (.cons rA .nil) ⟨D, ys, yv, rfl, rfl, hA, zA, rfl, qA⟩) fun _ sB ⟨_, HB, IB, _, _, qB⟩ => again IB k8 qB
  exact codeAny_compStart_list loop (T.self _ 0 _ _ _ st4 loop)
end
end L2
set_option Elab.async false
set_option linter.all false
set_option maxRecDepth 100000
set_option maxHeartbeats 4000000
namespace L2
open PySem PySem.Spec PyProof.Rows

noncomputable def Itf (n : Nat) (f : Nat → V) : It := ⟨fun i _ => i < n, fun i H x H' => H' = H ∧ x = f i, fun i _ => i = n⟩
theorem turn_walks {P : Program} {w : World} {K : PySem.W.Frag} {x : Str} {px : Pos} {it : Addr} {n : Nat} {f : Nat → V} {Pv : Nat → Value → Prop} {St : Nat → Heap → Prop}
    (W : ∀ A : Around, A.handled = none → Walks P w A it [it] [it] n Pv St) (hP : ∀ i v, Pv i v → RelV (f i) v) (hobj : ∀ i h, St i h → ∃ o, h.get? it = some o ∧ ∀ v, o.data ≠ .cell v)
    (hfr : ∀ i h h', St i h → (∀ o, h.get? it = some o → h'.get? it = some o) → St i h')
    (hself : ∀ (A : Around) (i : Nat) (s : Shared) (Q : Value → Shared → Prop) (E : Value → Shared → Prop), St i s.heap → Q (.ref it) s → wpAny (model P w) A (pyIter (.ref it)) Q E s) :
    Turn P w K (.Name x px) (Itf n f) [it] it St where
  mem := by simp
  obj := fun i h st b hb => by
    have e : b = it := by simpa using hb
    subst e
    exact hobj i h st
  keep := fun i h h' st k => hfr i h h' st fun o e => k it (by simp) o e
  item := by
    intro X hP' hw hK hc i pins s σ H E I hf st hg
    subst hP' hw hK
    obtain ⟨f0, f1, f2, f3, f4, f5⟩ := hf it (by simp)
    refine (W X.A (I.ok.hd hc)).item i s _ _ hg st fun v h' tk hv st' kk => ?_
    have I1 : Inv X pins σ H { s with heap := h', toks := tk } := I.turned (fun b o hb e => kk b o (by simpa using hb) e) f0 f1 f3 f4 f5
    refine ⟨v, rfl, wpAny_of_eq (a := ()) (by rfl) ⟨f i, H, I1, hP i v hv, ⟨rfl, rfl⟩, st', fun b hb => (hf b hb).1⟩⟩
  done := by
    intro X hP' hw hK hc i pins s σ H E I hf st hg
    subst hP' hw hK
    obtain ⟨f0, f1, f2, f3, f4, f5⟩ := hf it (by simp)
    have e : i = n := hg
    subst e
    exact (W X.A (I.ok.hd hc)).done s _ _ st fun h' tk kk => ⟨rfl, I.turned (fun b o hb e => kk b o (by simpa using hb) e) f0 f1 f3 f4 f5⟩
  self := fun A i s Q E st h => hself A i s Q E st h

noncomputable def signV (z : Str) (i : Nat) : V := .str ⟨#[z.cps.getD i 0]⟩
theorem signAt_rel {z : Str} {i : Nat} {v : Value} (h : SignAt z i v) : RelV (signV z i) v := by
  obtain ⟨c, u, h1, h2⟩ := h
  subst h2
  refine ⟨u, ?_⟩
  have : z.cps.getD i 0 = c := by rw [Array.getD_eq_getD_getElem?, h1]; rfl
  rw [this]
theorem turn_str {P : Program} {w : World} {K : PySem.W.Frag} {x : Str} {px : Pos} {it : Addr} {z : Str} {t : Tok} {ty : String} (hty : ty = "str_ascii_iterator" ∨ ty = "str_iterator") :
    Turn P w K (.Name x px) (Itf z.cps.size (signV z)) [it] it (fun i h => h.IsStrIter it ty z t i) := by
  rcases hty with e | e
  · subst e
    exact turn_walks (fun A hA => Walks.strAscii hA it z t) (fun i v h => signAt_rel h) (fun i h st => let ⟨o, e, _, d⟩ := st; ⟨o, e, fun v q => by rw [d] at q; cases q⟩)
      (fun i h h' st k => let ⟨o, e, r⟩ := st; ⟨o, k o e, r⟩) fun A i s Q E st q => wpAny_pyIter_striter_ascii st q
  · subst e
    exact turn_walks (fun A hA => Walks.strWide hA it z t) (fun i v h => signAt_rel h) (fun i h st => let ⟨o, e, _, d⟩ := st; ⟨o, e, fun v q => by rw [d] at q; cases q⟩)
      (fun i h h' st k => let ⟨o, e, r⟩ := st; ⟨o, k o e, r⟩) fun A i s Q E st q => wpAny_pyIter_striter_wide st q
section
variable {X : Cx} {x : Str} {px : Pos}
noncomputable def iStr (tl : TE) : TI := fun σ H R => tl σ H fun v H1 => ∃ z : Str, v = .str z ∧ R (Itf z.cps.size (signV z)) H1
theorem pi_str {l : Expr} {tl : TE} (hl : PE X l tl) : PI X (.Name x px) l (iStr tl) := by
  intro pins s σ H R I h
  refine thn (hl pins s σ H _ I h) fun v s1 ⟨y, H1, I1, r1, q1⟩ => ?_
  obtain ⟨z, e, q⟩ := q1
  subst e
  obtain ⟨t, e⟩ := r1
  subst e
  have fin : ∀ ty : String, (ty = "str_ascii_iterator" ∨ ty = "str_iterator") → PIE X pins σ (.Name x px) R (.ref s1.heap.objs.size) { s1 with heap := s1.heap.push { cls := .type ty, data := .fields #[.str z t, .int 0 0] } } := fun ty hty => by
    refine ⟨s1.heap.objs.size, [s1.heap.objs.size], _, _, H1, rfl, I1.kept (t' := s1.toks) fun b o e => Heap.get?_push_of_some _ e, turn_str (t := t) hty, ⟨_, Heap.get?_push_size _ rfl, rfl, rfl⟩, fun b hb => ?_, q⟩
    have e : b = s1.heap.objs.size := by simpa using hb
    subst e
    exact I1.fpOk (Nat.le_refl _) (I1.hok.fresh (Nat.le_refl _))
  cases ha : z.cps.all (· < 128) with
  | false => exact wpAny_pyIter_wide ha (fin _ (.inr rfl))
  | true => exact wpAny_pyIter_ascii ha (fin _ (.inl rfl))
end

section
variable {X : Cx}
noncomputable def rSlS : V → Option Int → Option Int → Hp → VK → Prop := fun x lo hi H Q => ∃ z : Str, x = .str z ∧ z.length ≤ sizeLine ∧ Q (.str (Txt.slice z lo hi)) H
theorem sl_str : SlR X rSlS := by
  intro pins s σ H x v vl vu lo hi sl Q I rx hs pl pu h
  obtain ⟨z, e, hz, q⟩ := h
  subst e
  obtain ⟨t, e⟩ := rx
  subst e
  refine ⟨"str", _, F.slot_str_getitem.lookup, typeIs_str _ _ _, ?_⟩
  have fin : ∀ (t' : Tok) (k : Nat), EP X pins σ Q (.str (Txt.slice z lo hi) t') { s with toks := k } := fun t' k => ⟨.str _, H, I.tok k, ⟨t', rfl⟩, q⟩
  cases pl with
  | none =>
    cases pu with
    | none => exact wpAny_getItem_str_slice (l := none) (u := none) (st := none) hs rfl (post_val_or_str ⟨Nat.le_trans (Txt.slice_le z _ _) hz, fin⟩)
    | int j uj => exact wpAny_getItem_str_slice (l := none) (u := some (j, uj)) (st := none) hs rfl (post_val_or_str ⟨Nat.le_trans (Txt.slice_le z _ _) hz, fin⟩)
  | int i ui =>
    cases pu with
    | none => exact wpAny_getItem_str_slice (l := some (i, ui)) (u := none) (st := none) hs rfl (post_val_or_str ⟨Nat.le_trans (Txt.slice_le z _ _) hz, fin⟩)
    | int j uj => exact wpAny_getItem_str_slice (l := some (i, ui)) (u := some (j, uj)) (st := none) hs rfl (post_val_or_str ⟨Nat.le_trans (Txt.slice_le z _ _) hz, fin⟩)

theorem strsAre_of : ∀ {ys : List Str} {us : List Value}, Vals (ys.map V.str) us → StrsAre us ys
  | [], _, r => by
    rw [List.map_nil] at r; cases r; exact .nil
  | y :: ys, _, r => by
    rw [List.map_cons] at r
    cases r with
    | cons r1 r2 =>
      obtain ⟨t, e⟩ := r1
      subst e
      exact .cons y t (strsAre_of r2)
noncomputable def rJoin (K : PySem.W.Frag) : V → List V → Hp → VK → Prop := fun x vs H Q => ∃ (z : Str) (l : Addr) (ys : List Str), x = .str z ∧ vs = [.ref l] ∧ SqL K H l (ys.map V.str) ∧ (ys.map (·.length)).sum + ys.length * z.length ≤ 16777216 ∧ Q (.str (Txt.join z ys)) H
theorem mt_join : MtR X "str.join" (rJoin X.K) := by
  intro pins s σ H x vs v us Q I rx rv h
  obtain ⟨z, l, ys, e1, e2, hl, hz, q⟩ := h
  subst e1 e2
  obtain ⟨t, e⟩ := rx
  subst e
  obtain ⟨u, e, ru⟩ := rv.one
  subst e
  cases ru
  obtain ⟨its, r, pl, _⟩ := I.list hl
  exact join_list pl.isList (by simpa using strsAre_of r) hz fun t' k => ⟨.str _, H, I.tok k, ⟨t', rfl⟩, q⟩
theorem glued_nil (ys : List Str) : (Txt.join Str.empty ys).cps.toList = (ys.map (·.cps.toList)).flatten := by
  unfold Txt.join
  rw [PySem.StrLaws.glued_eq_join]
  induction ys with
  | nil => rfl
  | cons y r ih =>
    cases r with
    | nil => simp [Str.join]
    | cons y2 r2 =>
      show (y ++ Str.empty ++ Str.join Str.empty (y2 :: r2)).cps.toList = _
      rw [List.map_cons, List.flatten_cons, ← ih]
      show (y.cps ++ Str.empty.cps ++ (Str.join Str.empty (y2 :: r2)).cps).toList = _
      simp [Str.empty]
end
end L2
set_option Elab.async false
set_option linter.all false
set_option maxRecDepth 100000
set_option maxHeartbeats 4000000
namespace L2
open PySem PySem.Spec PyProof.Rows
inductive EqD (K : PySem.W.Frag) (H : Hp) : Nat → V → V → Bool → Prop
  | flat {n : Nat} {x y : V} : flatV x = true → flatV y = true → EqD K H n x y (eqV x y)
  | same {n : Nat} {a : Addr} : EqD K H n (.ref a) (.ref a) true
  | lists {n : Nat} {a b : Addr} {xs ys : List V} {e : Nat → Bool} : SqL K H a xs → SqL K H b ys → xs.length = ys.length → (∀ (j : Nat) x y, xs[j]? = some x → ys[j]? = some y → EqD K H n x y (e j)) → a ≠ b →
      EqD K H (n + 1) (.ref a) (.ref b) ((List.range xs.length).all e)
  | tups {n : Nat} {a b : Addr} {xs ys : List V} {e : Nat → Bool} : SqT K H a xs → SqT K H b ys → (∀ (j : Nat) x y, xs[j]? = some x → ys[j]? = some y → EqD K H n x y (e j)) → a ≠ b →
      EqD K H (n + 1) (.ref a) (.ref b) ((List.range (min xs.length ys.length)).all e && xs.length == ys.length)
theorem EqD.at {X : Cx} {pins : List (Addr × Obj)} {σ : St} {H : Hp} {s : Shared} (I : Inv X pins σ H s) {n : Nat} {x y : V} {b : Bool} (h : EqD X.K H n x y b) :
    ∀ {A : Around} {u v : Value}, A.units + n < cLine → RelV x u → RelV y v → SeqAt.EqAt A s u v b := by
  induction h with
  | flat fx fy => intro A u v _ rx ry; exact eqAt_V rx ry fx fy
  | same =>
    intro A u v _ rx ry
    cases rx
    cases ry
    exact SeqAt.EqAt.same _
  | @lists n a c xs ys e ha hb hl hi hne ih =>
    intro A u v hu rx ry
    cases rx
    cases ry
    obtain ⟨its, r1, p1, _⟩ := I.list ha
    obtain ⟨its2, r2, p2, _⟩ := I.list hb
    have l1 := r1.length
    have l2 := r2.length
    refine SeqAt.EqAt.of_refs hne ?_
    have q := SeqAt.RcAt.lists (A := A) (e := e) p1.isList p2.isList (by rw [List.size_toArray, List.size_toArray]; omega) (by omega) fun j h1 h2 => by
      rw [List.size_toArray] at h1 h2
      have e1 : xs[j]? = some xs[j] := List.getElem?_eq_getElem (by omega)
      have e2 : ys[j]? = some ys[j] := List.getElem?_eq_getElem (by omega)
      obtain ⟨w1, g1, rr1⟩ := r1.get e1
      obtain ⟨w2, g2, rr2⟩ := r2.get e2
      have g1' : its.toArray[j] = w1 := by
        have := (List.getElem?_eq_some_iff.mp g1).2
        simpa using this
      have g2' : its2.toArray[j] = w2 := by
        have := (List.getElem?_eq_some_iff.mp g2).2
        simpa using this
      rw [g1', g2']
      exact ih j _ _ e1 e2 (by show A.units + 1 + n < cLine; omega) rr1 rr2
    rw [List.size_toArray, ← l1] at q
    exact q
  | @tups n a c xs ys e ha hb hi hne ih =>
    intro A u v hu rx ry
    cases rx
    cases ry
    obtain ⟨its, r1, p1, _⟩ := I.tuple ha
    obtain ⟨its2, r2, p2, _⟩ := I.tuple hb
    have l1 := r1.length
    have l2 := r2.length
    refine SeqAt.EqAt.of_refs hne ?_
    have q := SeqAt.RcAt.tuples (A := A) (e := e) (show s.heap.IsTuple a its.toArray from p1) (show s.heap.IsTuple c its2.toArray from p2) (by omega) fun j h1 h2 => by
      rw [List.size_toArray] at h1 h2
      have e1 : xs[j]? = some xs[j] := List.getElem?_eq_getElem (by omega)
      have e2 : ys[j]? = some ys[j] := List.getElem?_eq_getElem (by omega)
      obtain ⟨w1, g1, rr1⟩ := r1.get e1
      obtain ⟨w2, g2, rr2⟩ := r2.get e2
      have g1' : its.toArray[j] = w1 := by
        have := (List.getElem?_eq_some_iff.mp g1).2
        simpa using this
      have g2' : its2.toArray[j] = w2 := by
        have := (List.getElem?_eq_some_iff.mp g2).2
        simpa using this
      rw [g1', g2']
      exact ih j _ _ e1 e2 (by show A.units + 1 + n < cLine; omega) rr1 rr2
    rw [List.size_toArray, List.size_toArray, ← l1, ← l2] at q
    exact q
section
variable {X : Cx}
theorem EqD.items {pins : List (Addr × Obj)} {σ : St} {H : Hp} {s : Shared} (I : Inv X pins σ H s) {n : Nat} {A : Around} (hu : A.units + 1 + n < cLine) {xs ys : List V} {its its2 : List Value} (r1 : Vals xs its) (r2 : Vals ys its2) {e : Nat → Bool}
    (h : ∀ (j : Nat) x y, xs[j]? = some x → ys[j]? = some y → EqD X.K H n x y (e j)) (j : Nat) (h1 : j < its.toArray.size) (h2 : j < its2.toArray.size) : SeqAt.EqAt A.in1 s its.toArray[j] its2.toArray[j] (e j) := by
  have l1 := r1.length
  have l2 := r2.length
  rw [List.size_toArray] at h1 h2
  have e1 : xs[j]? = some xs[j] := List.getElem?_eq_getElem (by omega)
  have e2 : ys[j]? = some ys[j] := List.getElem?_eq_getElem (by omega)
  obtain ⟨w1, g1, rr1⟩ := r1.get e1
  obtain ⟨w2, g2, rr2⟩ := r2.get e2
  have g1' : its.toArray[j] = w1 := by
    have := (List.getElem?_eq_some_iff.mp g1).2
    simpa using this
  have g2' : its2.toArray[j] = w2 := by
    have := (List.getElem?_eq_some_iff.mp g2).2
    simpa using this
  rw [g1', g2']
  exact EqD.at I (h j _ _ e1 e2) (by show A.units + 1 + n < cLine; exact hu) rr1 rr2
noncomputable def rEqL (K : PySem.W.Frag) (neg : Bool) : R2 := fun x y H Q => ∃ a b xs ys e, x = .ref a ∧ y = .ref b ∧ SqL K H a xs ∧ SqL K H b ys ∧ (∀ (j : Nat) x y, xs[j]? = some x → ys[j]? = some y → EqD K H 8 x y (e j)) ∧
  Q (.bl (if neg then !(xs.length == ys.length && (List.range xs.length).all e) else (xs.length == ys.length && (List.range xs.length).all e))) H
theorem op_neL (hu : X.A.units + 64 < cLine) : OpR X (compareOp .NotEq) (rEqL X.K true) := by
  intro pins s σ H x y v u Q I rx ry h
  obtain ⟨a, b, xs, ys, e, e1, e2, ha, hb, hi, q⟩ := h
  subst e1 e2
  cases rx
  cases ry
  obtain ⟨its, r1, p1, _⟩ := I.list ha
  obtain ⟨its2, r2, p2, _⟩ := I.list hb
  have l1 := r1.length
  have l2 := r2.length
  by_cases hl : xs.length = ys.length
  · refine SeqAt.RcNeAt.lists (e := e) p1.isList p2.isList (by rw [List.size_toArray, List.size_toArray]; omega) (by omega) (EqD.items I (by omega) r1 r2 hi) _ _ _ _ ⟨.bl _, H, I, rfl, ?_⟩
    rw [List.size_toArray, ← l1]
    have : (xs.length == ys.length) = true := by simpa using hl
    rw [this] at q
    exact q
  · refine SeqAt.RcNeAt.lists_lengths p1.isList p2.isList (by rw [List.size_toArray, List.size_toArray, ← l1, ← l2]; simpa using hl) (by omega) _ _ _ _ ⟨.bl _, H, I, rfl, ?_⟩
    have : (xs.length == ys.length) = false := by simpa using hl
    rw [this] at q
    exact q
end
end L2
set_option Elab.async false
set_option linter.all false
set_option maxRecDepth 100000
set_option maxHeartbeats 4000000
namespace L2
open PySem PySem.Spec PyProof.Rows
section
variable {X : Cx}
theorem call_isinst : CallR X (.builtin "isinstance") (fun xs H Q => ∃ x T ty b, xs = [x, .ty T] ∧ TyOf X.K H x ty ∧ PySem.W.kitOne X.K ty (.type T) = some b ∧ Q (.bl b) H) := by
  intro pins s σ H xs us Q I r h
  obtain ⟨x, T, ty, b, e, t, k, q⟩ := h
  subst e
  obtain ⟨u1, u2, e, r1, r2⟩ := vals2 r
  subst e
  cases r2
  exact isinst_ok I r1 t k fun tk => ⟨.bl b, H, I.tok tk, rfl, q⟩
theorem kit_same {K : PySem.W.Frag} (T : String) : PySem.W.kitOne K (.type T) (.type T) = some true := by
  unfold PySem.W.kitOne
  rw [if_pos (by simp)]
theorem all_range (bs : List Bool) : (List.range bs.length).all (fun i => bs.getD i false) = bs.all id := by
  rw [Bool.eq_iff_iff]
  simp only [List.all_eq_true, List.mem_range]
  constructor
  · intro h x hx
    obtain ⟨i, hi, e⟩ := List.mem_iff_getElem.mp hx
    have q := h i hi
    rw [List.getD_eq_getElem?_getD, List.getElem?_eq_getElem hi, Option.getD_some, e] at q
    exact q
  · intro h i hi
    rw [List.getD_eq_getElem?_getD, List.getElem?_eq_getElem hi, Option.getD_some]
    exact h _ (List.getElem_mem hi)
theorem call_all (hc : X.calm = true) : CallR X (.builtin "all") (fun xs H Q => ∃ (l : Addr) (bs : List Bool), xs = [.ref l] ∧ SqL X.K H l (bs.map V.bl) ∧ Q (.bl (bs.all id)) H) := by
  intro pins s σ H xs us Q I r h
  obtain ⟨l, bs, e, hl, q⟩ := h
  subst e
  obtain ⟨u, e, ru⟩ := vals1 r
  subst e
  cases ru
  obtain ⟨its, rv, pl, hz⟩ := I.list hl
  have hlen := rv.length
  rw [List.length_map] at hlen
  have ne : l ≠ s.heap.objs.size := by
    obtain ⟨o, ho, _⟩ := pl.isList
    exact Nat.ne_of_lt (Heap.lt_size ho)
  refine call_all_walk (wpAny_pyIter_list pl.isList ?_)
  refine ⟨s.heap.objs.size, _, _, _, _, _, (fun i => bs.getD i false), rfl, Walks.list (show X.A.in1.handled = none from I.ok.hd hc) s.heap.objs.size l ne its.toArray, ⟨⟨_, Heap.get?_push_size _ rfl, rfl, rfl⟩, pl.isList.push _⟩, ?_, fun h' tk hk => ?_⟩
  · intro i v s' Q' E' hP hQ
    have hP' : its[i]? = some v := by simpa using hP
    have hi : i < bs.length := by
      have := (List.getElem?_eq_some_iff.mp hP').1
      omega
    have e1 : (bs.map V.bl)[i]? = some (.bl (bs.getD i false)) := by
      rw [List.getElem?_map, List.getElem?_eq_getElem hi, List.getD_eq_getElem?_getD, List.getElem?_eq_getElem hi]; rfl
    obtain ⟨u, hu, ru⟩ := rv.get e1
    rw [hP'] at hu
    cases hu
    cases ru
    exact wpAny_truthy_bool hQ
  · have hs : its.toArray.size = bs.length := by rw [List.size_toArray]; exact hlen.symm
    rw [hs, all_range]
    exact ⟨.bl _, H, I.kept fun b o e => hk b o (by
      have := Heap.lt_size e
      simp only [List.mem_singleton]
      exact Nat.ne_of_lt this) (Heap.get?_push_of_some _ e), rfl, q⟩
abbrev tabAt (K : PySem.W.Frag) (T : Addr) (D : List (Str × KTD.Dat)) : Prop := KTD.tabLook (KTD.datLooks fun a => K.lookup a) (fun a => K.lookup a) T D = true
theorem op_in_tab {T : Addr} {D : List (Str × KTD.Dat)} (hT : tabAt X.K T D) : OpR X (compareOp .In) (fun x y H Q => ∃ z, x = .str z ∧ y = .ref T ∧ Q (.bl (KTD.inKeys z D)) H) := by
  intro pins s σ H x y v u Q I rx ry h
  obtain ⟨z, e1, e2, q⟩ := h
  subst e1 e2
  obtain ⟨t, e⟩ := rx
  subst e
  cases ry
  exact KTD.in_text (h₀ := X.base) ⟨KTD.text_of_look (get := fun a => X.K.lookup a) (fun a o e => I.mod.kin a o e) hT, I.bk⟩ ⟨.bl _, H, I.tok _, rfl, q⟩
theorem call_int_text : CallR X (.type "int") (fun xs H Q => ∃ z n, xs = [.str z] ∧ PySem.intText? z = some n ∧ z.length ≤ 640 ∧ Q (.int n) H) := by
  intro pins s σ H xs us Q I r h
  obtain ⟨z, n, e, h1, h2, q⟩ := h
  subst e
  obtain ⟨u, e, ru⟩ := vals1 r
  subst e
  obtain ⟨t, e⟩ := ru
  subst e
  exact PySem.W.KIN.call_text h1 h2 ⟨.int n, H, I.tok _, ⟨_, rfl⟩, q⟩
end
end L2
set_option Elab.async false
set_option linter.all false
set_option maxRecDepth 100000
set_option maxHeartbeats 4000000
namespace L2
open PySem PySem.Spec PyProof.Rows

section
variable {X : Cx} {elts : List Expr} {k : Nat} {tpos : Pos}
end
end L2
set_option Elab.async false
set_option linter.all false
set_option maxRecDepth 100000
set_option maxHeartbeats 4000000
namespace L2
open PySem PySem.Spec PyProof.Rows
structure Fn (P : Program) (w : World) (K : PySem.W.Frag) (mg : Str → Option Value) (base : Heap) (x : Str) (ps : List Str) (k : Nat) (sp : Sp) : Prop where
  ex : ∃ f fd, FnOk P w K mg base CX0 k f fd ps sp ∧ mg x = some (.ref f) ∧ PySem.W.keepIn K (.ref f) = true ∧ Binds K fd ps []
section
variable {X : Cx}
theorem pe_fn {x : Str} {ps : List Str} {k : Nat} {sp : Sp} {e : Expr} {es : List Expr} {t : TA} {p pos : Pos} (F : Fn X.prog X.w X.K X.mg X.base x ps k sp) (hr : Room k X.A) (hg : Gl X x) (ha : PA X (e :: es) t)
    (hdb : (x == ("__debug__" : Str)) = false := by decide) (he : starEach (e :: es) X.env = (false, eval e X.env) :: starEach es X.env := by rfl) (hpl : (backTo pos (starEach es X.env)).any (·.1) = false := by rfl) :
    PE X (.Call (.Name x p) (e :: es) [] pos) (tCall sp [] E0 t) := by
  obtain ⟨f, fd, G, hm, hk, hb⟩ := F.ex
  exact pe_call G hr hg hm hk hb .nil pass0 ha hdb he hpl
end
section
variable {σ : St} {H : Hp} {Q : VK} {K : PySem.W.Frag}
theorem i_var {i : Nat} {v : V} (h : σ[i]? = some (some v)) (q : Q v H) : tVar i σ H Q := ⟨v, h, q⟩
theorem i_c {v : V} (q : Q v H) : tC v σ H Q := q
theorem i_op {r : R2} {ta tb : TE} (q : ta σ H fun x H1 => tb σ H1 fun y H2 => r x y H2 Q) : tOp r ta tb σ H Q := q
theorem i_rI0 {g : Int → Int → V} {i j : Int} (q : Q (g i j) H) : rI0 g (.int i) (.int j) H Q := ⟨i, j, rfl, rfl, q⟩
theorem i_rI {C : Int → Int → Prop} {g : Int → Int → V} {i j : Int} (c : C i j) (q : Q (g i j) H) : rI C g (.int i) (.int j) H Q := ⟨i, j, rfl, rfl, c, q⟩
theorem i_eq {x y : V} (h : scal x y = true) (q : Q (.bl (decide (x = y))) H) : rEq x y H Q := ⟨h, q⟩
theorem i_ne {x y : V} (h : scal x y = true) (q : Q (.bl (!decide (x = y))) H) : rNe x y H Q := ⟨h, q⟩
theorem i_test {t : TE} {R : Bool → Hp → Prop} (q : t σ H fun x H' => ∃ k, x = .bl k ∧ R k H') : tTest t σ H R := q
theorem i_tB {t : TE} {R : Bool → Hp → Prop} (q : t σ H fun x H' => ∃ k, x = .bl k ∧ R k H') : tB t σ H R := q
theorem i_and {t u : TT} {R : Bool → Hp → Prop} (q : t σ H fun c H1 => if c = true then u σ H1 R else R false H1) : tAnd t u σ H R := q
theorem i_or {t u : TT} {R : Bool → Hp → Prop} (q : t σ H fun c H1 => if c = true then R true H1 else u σ H1 R) : tOr t u σ H R := q
theorem i_not {t : TT} {R : Bool → Hp → Prop} (q : t σ H fun c H1 => R (!c) H1) : tNot t σ H R := q
theorem i_andV {ta tb : TE} (q : ta σ H fun x H1 => ∃ c, x = .bl c ∧ if c = true then tb σ H1 Q else Q (.bl false) H1) : tAndV ta tb σ H Q := q
theorem i_orV {ta tb : TE} (q : ta σ H fun x H1 => ∃ c, x = .bl c ∧ if c = true then Q (.bl true) H1 else tb σ H1 Q) : tOrV ta tb σ H Q := q
theorem i_notV {ta : TE} (q : ta σ H fun x H1 => ∃ c, x = .bl c ∧ Q (.bl (!c)) H1) : tNotV ta σ H Q := q
theorem i_ifE {t : TT} {ta tb : TE} (q : t σ H fun c H1 => if c = true then ta σ H1 Q else tb σ H1 Q) : tIf t ta tb σ H Q := q
theorem i_nil {R : List V → Hp → Prop} (q : R [] H) : tNil σ H R := q
theorem i_cons {te : TE} {tr : TA} {R : List V → Hp → Prop} (q : te σ H fun x H1 => tr σ H1 fun xs H2 => R (x :: xs) H2) : tCons te tr σ H R := q
theorem i_call {sp : Sp} {E : XK} {t : TA} (q : t σ H fun vs H1 => sp vs H1 Q E) : tCall sp [] E t σ H Q := by
  show t σ H fun vs H1 => sp (vs ++ []) H1 Q E
  simpa only [List.append_nil] using q
theorem i_cb {r : List V → Hp → VK → Prop} {t : TA} (q : t σ H fun vs H1 => r vs H1 Q) : tCB r t σ H Q := q
theorem i_tup {t : TA} (q : t σ H fun xs H1 => xs.length ≤ sizeLine ∧ ∀ p, H1 p = none → Q (.ref p) (upd H1 p (.tup xs))) : tTup t σ H Q := q
theorem i_lst {t : TA} (q : t σ H fun xs H1 => xs.length ≤ sizeLine ∧ ∀ p, H1 p = none → Q (.ref p) (upd H1 p (.lst xs))) : tLst t σ H Q := q
theorem i_bm {T : String} {r : V → List V → Hp → VK → Prop} {to : TE} {t : TA} (q : to σ H fun x H1 => tyV K T x H1 ∧ t σ H1 fun xs H2 => r x xs H2 Q) : tBM K T r to t σ H Q := q
theorem i_sl {r : V → Option Int → Option Int → Hp → VK → Prop} {te : TE} {tl th : TO} (q : te σ H fun x H1 => tl σ H1 fun l H2 => th σ H2 fun u H3 => r x l u H3 Q) : tSl r te tl th σ H Q := q
theorem i_nopart {R : Option Int → Hp → Prop} (q : R none H) : tNoPart σ H R := q
theorem i_part {t : TE} {R : Option Int → Hp → Prop} (q : t σ H fun x H1 => ∃ i, x = .int i ∧ R (some i) H1) : tPart t σ H R := q
theorem i_ixL {p : Addr} {xs : List V} {i : Int} {v : V} (h : SqL K H p xs) (e : atI xs i = some v) (q : Q v H) : rIxL K (.ref p) (.int i) H Q := ⟨p, xs, i, v, rfl, rfl, h, e, q⟩
theorem i_ixT {p : Addr} {xs : List V} {i : Int} {v : V} (h : H p = some (.tup xs)) (e : atI xs i = some v) (q : Q v H) : rIxT K (.ref p) (.int i) H Q := ⟨p, xs, i, v, rfl, rfl, SqT.of h, e, q⟩
theorem i_ixS {z : Str} {i : Int} {c : Nat} (hz : z.length ≤ sizeLine) (e : atI z.cps.toList i = some c) (q : Q (.str ⟨#[c]⟩) H) : rIxS (.str z) (.int i) H Q := ⟨z, i, c, rfl, rfl, hz, e, q⟩
variable {D : Ends}
theorem s_seq {t u : TS} (q : t { D with nx := u D } σ H) : tSeq t u D σ H := q
theorem s_asg {te : TE} {g : TG} (q : te σ H fun x H1 => g x σ H1 D.nx) : tAsg te g D σ H := q
theorem s_name {i : Nat} {v : V} {R : St → Hp → Prop} (q : R (σ.set i (some v)) H) : gName i v σ H R := q
theorem s_drop {te : TE} (q : te σ H fun _ H1 => D.nx σ H1) : tDrop te D σ H := q
theorem s_ret {te : TE} (q : te σ H D.rt) : tRet te D σ H := q
theorem s_next (q : D.nx σ H) : tNext D σ H := q
theorem s_if {c : TT} {t u : TS} (q : c σ H fun b H1 => if b = true then t D σ H1 else u D σ H1) : tIfS c t u D σ H := q
theorem s_sub {to ti : TE} {t : TSet} {v : V} {R : St → Hp → Prop} (q : to σ H fun o H1 => ti σ H1 fun i H2 => t o i v H2 fun H3 => R σ H3) : gSub to ti t v σ H R := q
theorem s_setL {p : Addr} {xs : List V} {k : Int} {j : Nat} {v : V} {R : Hp → Prop} (h : H p = some (.lst xs)) (e : ixN xs.length k = some j) (q : R (upd H p (.lst (xs.set j v)))) : rSetL (.ref p) (.int k) v H R := ⟨p, xs, k, j, rfl, rfl, h, e, q⟩
theorem s_for {wi : TI} {g : TG} {tb : TS} (q : wi σ H fun J H1 => ∃ W : Nat → Nat → St → Hp → Prop, (∃ m, W 0 m σ H1) ∧ ∀ i m σ H, W i m σ H →
  (J.stop i H ∧ D.nx σ H) ∨ (J.go i H ∧ ∃ N : St → Hp → Prop, (∀ σ' H', N σ' H' → ∃ m', m' < m ∧ W (i + 1) m' σ' H') ∧ ∀ x H', J.yld i H x H' → g x σ H' fun σ2 H2 => tb { D with nx := N, ct := N, bk := D.nx } σ2 H2)) : tFor wi g tb D σ H := q
theorem s_rng1 {ta : TA} {R : It → Hp → Prop} (q : ta σ H fun vs H1 => ∃ j : Int, vs = [.int j] ∧ -(2 ^ 62) ≤ j ∧ j < 2 ^ 62 ∧ R (Itr 0 j.toNat) H1) : iRng1 ta σ H R := q
theorem s_list {tl : TE} {R : It → Hp → Prop} (q : tl σ H fun x H1 => ∃ a, x = .ref a ∧ (∃ xs, SqL K H1 a xs) ∧ R (Itl K a) H1) : iList K tl σ H R := q
theorem s_str {tl : TE} {R : It → Hp → Prop} (q : tl σ H fun v H1 => ∃ z : Str, v = .str z ∧ R (Itf z.cps.size (signV z)) H1) : iStr tl σ H R := q
theorem s_strI {z : Str} {R : It → Hp → Prop} (q : R (Itf z.cps.size (signV z)) H) : ∃ y : Str, V.str z = .str y ∧ R (Itf y.cps.size (signV y)) H := ⟨z, rfl, q⟩
theorem i_comp {wi : TI} {g : TG} {tt : TT} {te : TE} {f : St → St} (q : wi σ H fun J H1 => ∀ D, H1 D = none → ∃ W : Nat → Nat → Hp → List V → Prop, (∃ m, W 0 m (upd H1 D (.lst [])) []) ∧
  ∀ i m H ys, W i m H ys → H D = some (.lst ys) ∧ ((J.stop i H ∧ Q (.ref D) H) ∨ (J.go i H ∧ ∀ x H', J.yld i H x H' → g x (f σ) H' fun σ2 H2 => wk (f σ) σ2 ∧ tt σ2 H2 fun b H3 =>
    if b = true then te σ2 H3 fun v H4 => H4 D = some (.lst ys) ∧ ys.length < sizeLine ∧ ∃ m', m' < m ∧ W (i + 1) m' (upd H4 D (.lst (ys ++ [v]))) (ys ++ [v])
    else ∃ m', m' < m ∧ W (i + 1) m' H3 ys))) : tComp wi g tt te f σ H Q := q
end
noncomputable def NextC (Pv : Nat → Hp → List V → Prop) (n : Nat) (D : Addr) (i : Nat) (ys : List V) : VK := fun v H4 => H4 D = some (.lst ys) ∧ ys.length < sizeLine ∧ ∃ m', m' < n - i ∧ (m' = n - (i + 1) ∧ i + 1 ≤ n ∧ Pv (i + 1) (upd H4 D (.lst (ys ++ [v]))) (ys ++ [v]))
theorem NextC.mk {Pv : Nat → Hp → List V → Prop} {n : Nat} {D : Addr} {i : Nat} {ys : List V} {v : V} {H4 : Hp} (hd : H4 D = some (.lst ys)) (hi : i < n) (hl : ys.length < sizeLine) (p : Pv (i + 1) (upd H4 D (.lst (ys ++ [v]))) (ys ++ [v])) : NextC Pv n D i ys v H4 :=
  ⟨hd, hl, n - (i + 1), by omega, rfl, hi, p⟩
section
variable {K : PySem.W.Frag} {g : TG} {te : TE} {σ0 : St} {QD : Hp → Prop} {H1 : Hp} {D : Addr}
theorem comp_range {lo : Int} {n : Nat} (Pv : Nat → Hp → List V → Prop) (h0 : Pv 0 (upd H1 D (.lst [])) []) (hD : ∀ i H ys, Pv i H ys → H D = some (.lst ys))
    (hs : ∀ i H ys, i < n → Pv i H ys → g (.int (lo + i)) σ0 H fun σ2 H2 => wk σ0 σ2 ∧ tYes σ2 H2 fun b H3 => if b = true then te σ2 H3 (NextC Pv n D i ys) else ∃ m', m' < n - i ∧ (m' = n - (i + 1) ∧ i + 1 ≤ n ∧ Pv (i + 1) H3 ys)) (hd : ∀ H ys, Pv n H ys → QD H) :
    ∃ W : Nat → Nat → Hp → List V → Prop, (∃ m, W 0 m (upd H1 D (.lst [])) []) ∧ ∀ i m H ys, W i m H ys → H D = some (.lst ys) ∧ (((Itr lo n).stop i H ∧ QD H) ∨ ((Itr lo n).go i H ∧ ∀ x H', (Itr lo n).yld i H x H' → g x σ0 H' fun σ2 H2 => wk σ0 σ2 ∧ tYes σ2 H2 fun b H3 =>
      if b = true then te σ2 H3 fun v H4 => H4 D = some (.lst ys) ∧ ys.length < sizeLine ∧ ∃ m', m' < m ∧ W (i + 1) m' (upd H4 D (.lst (ys ++ [v]))) (ys ++ [v]) else ∃ m', m' < m ∧ W (i + 1) m' H3 ys)) := by
  refine ⟨fun i m H ys => m = n - i ∧ i ≤ n ∧ Pv i H ys, ⟨n, by simp, Nat.zero_le _, h0⟩, ?_⟩
  rintro i m H ys ⟨rfl, hi, p⟩
  refine ⟨hD i H ys p, ?_⟩
  by_cases hlt : i < n
  · refine .inr ⟨hlt, fun x H' y => ?_⟩
    obtain ⟨e, y⟩ := y
    subst e y
    exact hs i _ ys hlt p
  · have e : i = n := by omega
    subst e
    exact .inl ⟨Nat.le_refl _, hd H ys p⟩
theorem comp_list {a : Addr} {xs : List V} (Pv : Nat → Hp → List V → Prop) (h0 : Pv 0 (upd H1 D (.lst [])) []) (hD : ∀ i H ys, Pv i H ys → H D = some (.lst ys) ∧ SqL K H a xs)
    (hs : ∀ i x H ys, xs[i]? = some x → Pv i H ys → g x σ0 H fun σ2 H2 => wk σ0 σ2 ∧ tYes σ2 H2 fun b H3 => if b = true then te σ2 H3 (NextC Pv xs.length D i ys) else ∃ m', m' < xs.length - i ∧ (m' = xs.length - (i + 1) ∧ i + 1 ≤ xs.length ∧ Pv (i + 1) H3 ys)) (hd : ∀ H ys, Pv xs.length H ys → QD H) :
    ∃ W : Nat → Nat → Hp → List V → Prop, (∃ m, W 0 m (upd H1 D (.lst [])) []) ∧ ∀ i m H ys, W i m H ys → H D = some (.lst ys) ∧ (((Itl K a).stop i H ∧ QD H) ∨ ((Itl K a).go i H ∧ ∀ x H', (Itl K a).yld i H x H' → g x σ0 H' fun σ2 H2 => wk σ0 σ2 ∧ tYes σ2 H2 fun b H3 =>
      if b = true then te σ2 H3 fun v H4 => H4 D = some (.lst ys) ∧ ys.length < sizeLine ∧ ∃ m', m' < m ∧ W (i + 1) m' (upd H4 D (.lst (ys ++ [v]))) (ys ++ [v]) else ∃ m', m' < m ∧ W (i + 1) m' H3 ys)) := by
  refine ⟨fun i m H ys => m = xs.length - i ∧ i ≤ xs.length ∧ Pv i H ys, ⟨xs.length, by simp, Nat.zero_le _, h0⟩, ?_⟩
  rintro i m H ys ⟨rfl, hi, p⟩
  obtain ⟨d1, d2⟩ := hD i H ys p
  refine ⟨d1, ?_⟩
  by_cases hlt : i < xs.length
  · refine .inr ⟨⟨xs, xs[i], d2, by simp [hlt]⟩, fun x H' y => ?_⟩
    obtain ⟨e, y⟩ := y
    subst e
    exact hs i x _ ys (y xs d2) p
  · have e : i = xs.length := by omega
    subst e
    exact .inl ⟨⟨xs, d2, Nat.le_refl _⟩, hd H ys p⟩
theorem comp_itf {n : Nat} {f : Nat → V} (Pv : Nat → Hp → List V → Prop) (h0 : Pv 0 (upd H1 D (.lst [])) []) (hD : ∀ i H ys, Pv i H ys → H D = some (.lst ys))
    (hs : ∀ i H ys, i < n → Pv i H ys → g (f i) σ0 H fun σ2 H2 => wk σ0 σ2 ∧ tYes σ2 H2 fun b H3 => if b = true then te σ2 H3 (NextC Pv n D i ys) else ∃ m', m' < n - i ∧ (m' = n - (i + 1) ∧ i + 1 ≤ n ∧ Pv (i + 1) H3 ys)) (hd : ∀ H ys, Pv n H ys → QD H) :
    ∃ W : Nat → Nat → Hp → List V → Prop, (∃ m, W 0 m (upd H1 D (.lst [])) []) ∧ ∀ i m H ys, W i m H ys → H D = some (.lst ys) ∧ (((Itf n f).stop i H ∧ QD H) ∨ ((Itf n f).go i H ∧ ∀ x H', (Itf n f).yld i H x H' → g x σ0 H' fun σ2 H2 => wk σ0 σ2 ∧ tYes σ2 H2 fun b H3 =>
      if b = true then te σ2 H3 fun v H4 => H4 D = some (.lst ys) ∧ ys.length < sizeLine ∧ ∃ m', m' < m ∧ W (i + 1) m' (upd H4 D (.lst (ys ++ [v]))) (ys ++ [v]) else ∃ m', m' < m ∧ W (i + 1) m' H3 ys)) := by
  refine ⟨fun i m H ys => m = n - i ∧ i ≤ n ∧ Pv i H ys, ⟨n, by simp, Nat.zero_le _, h0⟩, ?_⟩
  rintro i m H ys ⟨rfl, hi, p⟩
  refine ⟨hD i H ys p, ?_⟩
  by_cases hlt : i < n
  · refine .inr ⟨hlt, fun x H' y => ?_⟩
    obtain ⟨e, y⟩ := y
    subst e y
    exact hs i _ ys hlt p
  · have e : i = n := by omega
    subst e
    exact .inl ⟨rfl, hd H ys p⟩
end
end L2
namespace L2
open PySem PySem.Spec PyProof.Rows
section
variable {H : Hp} {Q : VK} {K : PySem.W.Frag}
theorem i_slS {z : Str} {lo hi : Option Int} (h : z.length ≤ sizeLine) (q : Q (.str (Txt.slice z lo hi)) H) : rSlS (.str z) lo hi H Q := ⟨z, rfl, h, q⟩
theorem i_slL {a : Addr} {xs : List V} {lo hi : Option Int} (h : SqL K H a xs) (q : ∀ p, H p = none → Q (.ref p) (upd H p (.lst (cutV xs lo hi)))) : rSlL K (.ref a) lo hi H Q := ⟨a, xs, rfl, h, q⟩
theorem i_cat {l b : Addr} {xs zs : List V} (h1 : H l = some (.lst xs)) (h2 : H b = some (.lst zs)) (hz : xs.length + zs.length ≤ sizeLine) (q : ∀ p, H p = none → Q (.ref p) (upd H p (.lst (xs ++ zs)))) : rCat (.ref l) (.ref b) H Q := ⟨l, b, xs, zs, rfl, rfl, h1, h2, hz, q⟩
theorem i_app {l : Addr} {xs : List V} {y : V} (h : H l = some (.lst xs)) (hz : xs.length < sizeLine) (q : Q .non (upd H l (.lst (xs ++ [y])))) : rAppend (.ref l) [y] H Q := ⟨l, xs, y, rfl, rfl, h, hz, q⟩
theorem i_tyL {p : Addr} {xs : List V} (h : H p = some (.lst xs)) : tyV K "list" (.ref p) H := .inl ⟨rfl, xs, SqL.of h⟩
theorem i_tyS {z : Str} : tyV K "str" (.str z) H := rfl
theorem i_join {z : Str} {l : Addr} {ys : List Str} (h : H l = some (.lst (ys.map V.str))) (hz : (ys.map (·.length)).sum + ys.length * z.length ≤ 16777216) (q : Q (.str (Txt.join z ys)) H) : rJoin K (.str z) [.ref l] H Q := ⟨z, l, ys, rfl, rfl, SqL.of h, hz, q⟩
end
theorem fresh_same {H : Hp} {p : Addr} {o : HO} (hp : H p = none) : Same H (upd H p o) := fun b u e => by rw [upd_ne (ne_of_none e hp)]; exact e
end L2
set_option Elab.async false
set_option linter.all false
set_option maxRecDepth 100000
set_option maxHeartbeats 4000000
namespace L2
open PySem PySem.Spec PyProof.Rows
noncomputable def dropH (H : Hp) (c : Addr) : Hp := fun b => if b = c then none else H b
theorem drop_same {H : Hp} {c : Addr} : dropH H c c = none := if_pos rfl
theorem drop_ne {H : Hp} {c b : Addr} (h : b ≠ c) : dropH H c b = H b := if_neg h
theorem drop_some {H : Hp} {c b : Addr} {o : HO} (h : dropH H c b = some o) : b ≠ c ∧ H b = some o := by
  by_cases e : b = c
  · subst e; rw [drop_same] at h; cases h
  · rw [drop_ne e] at h; exact ⟨e, h⟩
noncomputable def AsIs (o : Obj) : HO := .frz o (.ext fun _ => True)
section
variable {P : Program} {w : World} {H H1 : Hp} {h h1 : Heap} {c : Addr} {o : Obj} {fs ex : List Addr}
theorem asis_ok {H : Hp} (e : h.get? c = some o) : ObjOk P w H h c (AsIs o) := ⟨e, trivial, ⟨o, e⟩, fun _ _ _ _ => trivial⟩
theorem HOk.drop (x : HOk P w H h) (hc : H c = some (AsIs o)) : HOk P w (dropH H c) h := fun b u e => by
  obtain ⟨_, e⟩ := drop_some e
  refine (x b u e).stay (fun _ _ _ q => q) (fun d q => ?_) fun d xs q => ?_
  · rw [drop_ne]; exact q; intro z; subst z; rw [hc] at q; cases q
  · rw [drop_ne]; exact q; intro z; subst z; rw [hc] at q; cases q
theorem HOk.take (x : HOk P w H h) (hc : H c = none) (e : h.get? c = some o) : HOk P w (upd H c (AsIs o)) h := fun b u q => by
  by_cases hb : b = c
  · subst hb; rw [upd_same] at q; cases q; exact asis_ok e
  · rw [upd_ne hb] at q
    refine (x b u q).stay (fun _ _ _ r => r) (fun d r => ?_) fun d xs r => ?_
    · rw [upd_ne (ne_of_none r hc)]; exact r
    · rw [upd_ne (ne_of_none r hc)]; exact r
theorem Un.back (u : Un fs ex (dropH H c) H1 h h1) (hc : H c = some (AsIs o)) (e : h.get? c = some o) (nf : c ∉ fs) (nx : c ∉ ex) : Un fs ex H (upd H1 c (AsIs o)) h h1 ∧ H1 c = none ∧ h1.get? c = some o := by
  have h1c := u.free c o e drop_same nx
  have e1 := u.keep c o e drop_same nf nx
  have ne : ∀ {b v}, H b = some v → v ≠ AsIs o → b ≠ c := fun q n z => by subst z; rw [hc] at q; cases q; exact n rfl
  have nn : ∀ {b}, H b = none → b ≠ c := fun q z => by subst z; rw [hc] at q; cases q
  refine ⟨⟨fun b ob q n hb hx => ?_, fun b ob q n hb hx => ?_, fun b ob q n hx => ?_, fun b ob q hx => u.there b ob q hx, fun b xs q => ?_, fun b ob v q => ?_, fun b ps q => ?_⟩, h1c, e1⟩
  · exact u.keep b ob q (by rw [drop_ne (nn n)]; exact n) hb hx
  · exact u.slot b ob q (by rw [drop_ne (nn n)]; exact n) hb hx
  · rw [upd_ne (nn n)]; exact u.free b ob q (by rw [drop_ne (nn n)]; exact n) hx
  · have nb := ne q (fun z => by cases z)
    rw [upd_ne nb]; exact u.tups b xs (by rw [drop_ne nb]; exact q)
  · by_cases nb : b = c
    · subst nb; rw [hc] at q; cases q; exact upd_same
    · rw [upd_ne nb]; exact u.frzs b ob v (by rw [drop_ne nb]; exact q)
  · have nb := ne q (fun z => by cases z)
    rw [upd_ne nb]; exact u.tbls b ps (by rw [drop_ne nb]; exact q)
theorem Un.out (u : Un fs ex (upd H c (AsIs o)) H1 h h1) (k1 : HOk P w H1 h1) (hc : H c = none) (e : h.get? c = some o) (nf : c ∉ fs) : Un fs ex H (dropH H1 c) h h1 ∧ HOk P w (dropH H1 c) h1 ∧ H1 c = some (AsIs o) := by
  have h1c := u.frzs c o _ upd_same
  have e1 := (k1 c _ h1c).1
  refine ⟨⟨fun b ob q n hb hx => ?_, fun b ob q n hb hx => ?_, fun b ob q n hx => ?_, fun b ob q hx => u.there b ob q hx, fun b xs q => ?_, fun b ob v q => ?_, fun b ps q => ?_⟩, k1.drop h1c, h1c⟩
  · by_cases nb : b = c
    · subst nb; rw [e] at q; cases q; exact e1
    · exact u.keep b ob q (by rw [upd_ne nb]; exact n) hb hx
  · have nb : b ≠ c := fun z => by subst z; exact nf hb
    exact u.slot b ob q (by rw [upd_ne nb]; exact n) hb hx
  · by_cases nb : b = c
    · subst nb; exact drop_same
    · rw [drop_ne nb]; exact u.free b ob q (by rw [upd_ne nb]; exact n) hx
  · have nb := ne_of_none q hc
    rw [drop_ne nb]; exact u.tups b xs (by rw [upd_ne nb]; exact q)
  · have nb := ne_of_none q hc
    rw [drop_ne nb]; exact u.frzs b ob v (by rw [upd_ne nb]; exact q)
  · have nb := ne_of_none q hc
    rw [drop_ne nb]
    exact u.tbls b ps (by rw [upd_ne nb]; exact q)
end
structure Lm where
  qual : Str
  params : Arguments
  body : Expr
  scope : Scope
  pos : Pos
noncomputable def CodeO (c : Addr) (qual : Str) : HO := .ext fun h => h.CodeRec (.ref c) qual
noncomputable def LamO (f : Addr) (l : Lm) (cl : List (Str × Addr)) (c : Addr) : HO := .ext fun h => ∃ pm ctv, h.get? f = some (PySem.W.kla_obj "<lambda>" l.qual l.params l.body l.scope cl pm c ctv)
theorem codeO_ok {P : Program} {w : World} {H : Hp} {h : Heap} {c : Addr} {qual : Str} (r : h.CodeRec (.ref c) qual) : ObjOk P w H h c (CodeO c qual) := by
  obtain ⟨d, oc, vs, t, e1, e2, r2⟩ := id r
  cases e1
  refine ⟨r, ⟨oc, e2⟩, fun h1 h2 p k => ?_⟩
  obtain ⟨d, oc, vs, t, e1, e2, r2⟩ := p
  cases e1
  exact ⟨_, oc, vs, t, rfl, k _ e2, r2⟩
theorem lamO_ok {P : Program} {w : World} {H : Hp} {h : Heap} {f c : Addr} {l : Lm} {cl : List (Str × Addr)} {pm ctv : Value} (e : h.get? f = some (PySem.W.kla_obj "<lambda>" l.qual l.params l.body l.scope cl pm c ctv)) : ObjOk P w H h f (LamO f l cl c) :=
  ⟨⟨pm, ctv, e⟩, ⟨_, e⟩, fun _ _ ⟨pm, ctv, q⟩ k => ⟨pm, ctv, k _ q⟩⟩
noncomputable def entry (l : Lm) (c : Addr) : Array Value := #[rawInt l.pos.line, rawInt l.pos.col, .ref c]
noncomputable def TbAt (T : Addr) (l : Lm) (H : Hp) : Prop := H T = some (.tbl #[]) ∨ ∃ c, H T = some (.tbl (entry l c)) ∧ H c = some (CodeO c l.qual)
structure Made (T : Addr) (l : Lm) (cl : List (Str × Addr)) (H : Hp) (f c : Addr) (H' : Hp) : Prop where
  new : H f = none
  fn : H' f = some (LamO f l cl c)
  code : H' c = some (CodeO c l.qual)
  tab : H' T = some (.tbl (entry l c))
  old : ∀ b o, H b = some o → b ≠ T → H' b = some o
noncomputable def BMain (base : Heap) (mg : Str → Option Value) : Prop := ∃ bm ob, mg "__builtins__" = some (.ref bm) ∧ bm ≠ builtinsNs ∧ bm ≠ mainGlobals ∧ base.get? bm = some ob ∧ ob.cls = .type "module" ∧ ob.dict = some builtinsNs ∧ ob.data = .plain
noncomputable def tLam (T : Addr) (l : Lm) (cl : List (Str × Addr)) : TE := fun _ H Q => TbAt T l H ∧ ∀ f c H', Made T l cl H f c H' → Q (.ref f) H'
section
variable {X : Cx}
theorem pe_lam {params : Arguments} {body : Expr} {scope : Scope} {pos : Pos} {cc T : Addr} {cl : List (Str × Addr)} (hcode : X.env.code = .ref cc) (C : PySem.W.CodeHd X.base cc T) (B : BMain X.base X.mg) (hcl : closureFor scope X.env = pure cl) (hdef : defaultsOf params X.env = ([], []) := by rfl) :
    PE X (.Lambda params body scope pos) (tLam T ⟨X.env.qual ++ "<lambda>", params, body, scope, pos⟩ cl) := by
  intro pins s σ H Q I h
  obtain ⟨tb, q⟩ := h
  refine PySem.W.kla_eval hdef ?_
  have hg : s.heap.Ns mainGlobals X.mg := I.mod.glob.keeps I.bk
  have hT : ∃ ps, H T = some (.tbl ps) := by rcases tb with e | ⟨c, e, _⟩ <;> exact ⟨_, e⟩
  obtain ⟨ps0, hps0⟩ := hT
  have bne : ∀ {b ob}, X.base.get? b = some ob → b ≠ T := fun e z => by
    subst z
    rw [(I.bs _ _ e).2] at hps0
    cases hps0
  have hgP : mainGlobals ≠ T := by
    obtain ⟨o, es, ep, e, _⟩ := I.mod.glob
    exact bne e
  obtain ⟨bm, ob, b1, b2, b3, b4, b5, b6, b7⟩ := B
  have hB : s.heap.BuiltinsAt X.mg T := ⟨bm, ob, b1, b2, b3, bne b4, I.bk _ _ b4, b5, b6, b7⟩
  have CH := C.keeps I.bk
  rcases tb with e | ⟨c, e, hc⟩
  · have hP : s.heap.get? T = some (PySem.W.tabObj #[]) := I.hok T _ e
    refine PySem.W.kla_makeFunction (mg := X.mg) hcl I.ok.glob hg hcode CH hP trivial rfl hgP hB fun c' ctv h' tk hx hge hlt hrec htb => ?_
    have hsz : s.heap.objs.size ≤ h'.objs.size := Nat.le_of_lt (Nat.lt_of_le_of_lt hge hlt)
    have nT : T < s.heap.objs.size := Heap.lt_size hP
    let f : Addr := h'.objs.size
    have Hf : H f = none := I.hok.fresh hsz
    have Hc : H c' = none := I.hok.fresh hge
    have nfc : c' ≠ f := Nat.ne_of_lt hlt
    have nTf : T ≠ f := Nat.ne_of_lt (Nat.lt_of_lt_of_le nT hsz)
    have nTc : T ≠ c' := Nat.ne_of_lt (Nat.lt_of_lt_of_le nT hge)
    let H' : Hp := upd (upd (upd H T (.tbl (entry ⟨X.env.qual ++ "<lambda>", params, body, scope, pos⟩ c'))) c' (CodeO c' (X.env.qual ++ "<lambda>"))) f (LamO f ⟨X.env.qual ++ "<lambda>", params, body, scope, pos⟩ cl c')
    have hH : ∀ b o, H b = some o → b ≠ T → H' b = some o := fun b o e n => by
      show upd (upd (upd H T _) c' _) f _ b = _
      rw [upd_ne (ne_of_none e Hf), upd_ne (ne_of_none e Hc), upd_ne n]
      exact e
    have hHT : H' T = some (.tbl (entry ⟨X.env.qual ++ "<lambda>", params, body, scope, pos⟩ c')) := by
      show upd (upd (upd H T _) c' _) f _ T = _
      rw [upd_ne nTf, upd_ne nTc, upd_same]
    have hHc : H' c' = some (CodeO c' (X.env.qual ++ "<lambda>")) := by
      show upd (upd (upd H T _) c' _) f _ c' = _
      rw [upd_ne nfc, upd_same]
    have kx : ∀ b o, b ≠ T → s.heap.get? b = some o → (h'.push (PySem.W.kla_obj "<lambda>" (X.env.qual ++ "<lambda>") params body scope cl ((X.mg "__name__").getD .none) c' ctv)).get? b = some o := fun b o n e => Heap.get?_push_of_some _ (hx b o n e)
    have htb' : h'.get? T = some (PySem.W.tabObj (entry ⟨X.env.qual ++ "<lambda>", params, body, scope, pos⟩ c')) := by simpa [entry] using htb
    have ntb : ∀ {b u}, H b = some u → (∀ ps, u ≠ .tbl ps) → b ≠ T := fun r n z => by
      subst z
      rw [e] at r
      cases r
      exact n _ rfl
    have un : Un X.fs [] H H' s.heap (h'.push (PySem.W.kla_obj "<lambda>" (X.env.qual ++ "<lambda>") params body scope cl ((X.mg "__name__").getD .none) c' ctv)) := by
      have nn : ∀ {b}, H b = none → b ≠ T := fun n z => by subst z; rw [e] at n; cases n
      refine ⟨fun b o r n _ _ => kx b o (nn n) r, fun b o r n _ _ => ⟨o.slots, kx b o (nn n) r⟩, fun b o r n _ => ?_, fun b o r _ => ?_, fun b xs r => hH b _ r (ntb r fun _ z => nomatch z), fun b o v r => hH b _ r (ntb r fun _ z => nomatch z), fun b ps r => ?_⟩
      · have lb : b < s.heap.objs.size := Heap.lt_size r
        show upd (upd (upd H T _) c' _) f _ b = none
        rw [upd_ne (Nat.ne_of_lt (Nat.lt_of_lt_of_le lb hsz)), upd_ne (Nat.ne_of_lt (Nat.lt_of_lt_of_le lb hge)), upd_ne (nn n)]
        exact n
      · by_cases z : b = T
        · subst z; exact ⟨_, Heap.get?_push_of_some _ htb'⟩
        · exact ⟨o, kx b o z r⟩
      · by_cases z : b = T
        · subst z
          rw [e] at r
          cases r
          exact ⟨entry ⟨X.env.qual ++ "<lambda>", params, body, scope, pos⟩ c', by rw [hHT, Array.empty_append]⟩
        · exact ⟨#[], by rw [hH b _ r z]; simp⟩
    have hok : HOk X.prog X.w H' (h'.push (PySem.W.kla_obj "<lambda>" (X.env.qual ++ "<lambda>") params body scope cl ((X.mg "__name__").getD .none) c' ctv)) := fun b u qb => by
      have qb : upd (upd (upd H T (.tbl (entry ⟨X.env.qual ++ "<lambda>", params, body, scope, pos⟩ c'))) c' (CodeO c' (X.env.qual ++ "<lambda>"))) f (LamO f ⟨X.env.qual ++ "<lambda>", params, body, scope, pos⟩ cl c') b = some u := qb
      by_cases z1 : b = f
      · subst z1
        rw [upd_same] at qb
        cases qb
        exact lamO_ok (Heap.get?_push_size _ rfl)
      · rw [upd_ne z1] at qb
        by_cases z2 : b = c'
        · subst z2
          rw [upd_same] at qb
          cases qb
          obtain ⟨d, oc, vs, t, e1, e2, r2⟩ := hrec
          exact codeO_ok ⟨d, oc, vs, t, e1, Heap.get?_push_of_some _ e2, r2⟩
        · rw [upd_ne z2] at qb
          by_cases z3 : b = T
          · subst z3
            rw [upd_same] at qb
            cases qb
            exact Heap.get?_push_of_some _ htb'
          · rw [upd_ne z3] at qb
            refine (I.hok b u qb).stay (fun d v hd r => kx d v ?_ r) (fun d r => hH d _ r (ntb r fun _ z => nomatch z)) fun d xs r => hH d _ r (ntb r fun _ z => nomatch z)
            rcases hd with z | z
            · rw [z]; exact z3
            · intro y; subst y; rw [e] at z; cases z
    refine ⟨.ref f, H', I.un (t' := tk) un hok, rfl, q f c' H' ⟨Hf, upd_same, hHc, hHT, hH⟩⟩
  · have hP : s.heap.get? T = some (PySem.W.tabObj (entry ⟨X.env.qual ++ "<lambda>", params, body, scope, pos⟩ c)) := I.hok T _ e
    refine PySem.W.kla_makeFunctionHit (mg := X.mg) (cv := .ref c) hcl I.ok.glob hg hcode CH hP trivial (by simp [entry, codeAmong, rawInt]) hB fun ctv h' tk hk hsz => ?_
    let f : Addr := h'.objs.size
    have Hf : H f = none := I.hok.fresh hsz
    refine ⟨.ref f, _, I.laid (t' := tk) (a := f) (o := LamO f ⟨X.env.qual ++ "<lambda>", params, body, scope, pos⟩ cl c) (fun b o e => Heap.get?_push_of_some _ (hk b o e)) hsz (lamO_ok (Heap.get?_push_size _ rfl)), rfl, q f c _ ⟨Hf, upd_same, ?_, ?_, fun b o e _ => ?_⟩⟩
    · rw [upd_ne (ne_of_none hc Hf)]; exact hc
    · rw [upd_ne (ne_of_none e Hf)]; exact e
    · rw [upd_ne (ne_of_none e Hf)]; exact e
end
end L2
set_option Elab.async false
set_option linter.all false
set_option maxRecDepth 100000
set_option maxHeartbeats 4000000
namespace L2
open PySem PySem.Spec PyProof.Rows
structure LmScope (x y : Str) (sc : Scope) : Prop where
  kind : sc.kind = .function
  co : sc.isCoroutine = false
  gen : sc.isGenerator = false
  par : sc.names.lookup x = some .local
  fre : sc.names.lookup y = some .free
  ne : x ≠ y
  nocell : ∀ z ∈ sc.names, z.2 ≠ .cell
  only : ∀ z, sc.names.lookup z = some .free → z = y
noncomputable def cxLam (P : Program) (w : World) (K : PySem.W.Frag) (mg : Str → Option Value) (base : Heap) (x y : Str) (l : Lm) (f c cell : Addr) (A : Around) (outer : List Env) (s : Shared) (H : Hp) (E : XK) : Cx where
  prog := P
  w := w
  K := K
  mg := mg
  base := base
  A := A.deeper (PySem.W.envX l.qual l.scope s.heap.objs.size f (.ref c) [(y, cell)])
  N := [x, y]
  s₀ := s
  H₀ := H
  env := PySem.W.envX l.qual l.scope s.heap.objs.size f (.ref c) [(y, cell)]
  outer := outer
  stack := PySem.W.envX l.qual l.scope s.heap.objs.size f (.ref c) [(y, cell)] :: outer
  ex := []
  calm := true
  fn := fun _ => false
  pn := []
  xe := fun e s' => wpAny (model P w) (A.deeper (PySem.W.envX l.qual l.scope s.heap.objs.size f (.ref c) [(y, cell)])) (leaving (PySem.W.envX l.qual l.scope s.heap.objs.size f (.ref c) [(y, cell)]) e) (fun _ s'' => CX0 outer H s E e s'') (fun e' s'' => CX0 outer H s E e' s'') s'
theorem lk1 {y z : Str} {cell c : Addr} (h : [(y, cell)].lookup z = some c) : z = y ∧ c = cell := by
  rw [List.lookup_cons] at h
  by_cases e : (z == y) = true
  · rw [e] at h
    cases h
    exact ⟨eq_of_beq e, rfl⟩
  · have e : (z == y) = false := by simpa using e
    rw [e] at h
    cases h
theorem lk1_self {y : Str} {cell : Addr} : [(y, cell)].lookup y = some cell := by
  rw [List.lookup_cons, beq_self_eq_true]
theorem inv_lam {P : Program} {w : World} {K : PySem.W.Frag} {mg : Str → Option Value} {base : Heap} {x y : Str} {l : Lm} {f c cell : Addr} {A : Around} {outer : List Env} {s : Shared} {H : Hp} {E : XK} {u uy : Value} {vx vy : V} {h1 : Heap} {tk : Nat}
    (S : LmScope x y l.scope) (hd : A.handled = none) (e0 : Env0 P w K mg base A outer s H) (rx : RelV vx u) (ry : RelV vy uy) (hc : s.heap.IsCell cell (some uy)) (hH : H cell = none)
    (hns : h1.Ns s.heap.objs.size (fun z => [(x, u)].reverse.lookup z)) (hk : ∀ b o, s.heap.get? b = some o → h1.get? b = some o) :
    Inv (cxLam P w K mg base x y l f c cell A outer s H E) [] [some vx, some vy] H { s with heap := h1, toks := tk } := by
  have noA : ∀ b : Addr, b ∉ (cxLam P w K mg base x y l f c cell A outer s H E).ex := fun b z => absurd (show b ∈ ([] : List Addr) from z) (by simp)
  have hc1 : h1.IsCell cell (some uy) := by obtain ⟨o, e1, e2⟩ := hc; exact ⟨o, hk _ _ e1, e2⟩
  refine ⟨⟨e0.mod, S.kind, rfl, rfl, Nat.le_refl _, fun y' z c h1 h2 => (lk1 h1).1.trans (lk1 h2).1.symm, fun z hz => ?_, (fun y c h _ => nomatch h), fun _ => hd, Around.frames_deeper e0.frames, .inr ⟨rfl, rfl⟩, fun b z => absurd z (noA b), e0.bs, e0.bsz, fun b _ _ => noA b, fun b z => absurd z (noA b), e0.funs, e0.frf⟩,
    rfl, e0.bare, Un.kept hk, ⟨_, hns, fun i z v h1 h2 h3 => ?_⟩, fun z c h => ?_, e0.hok.fresh (Nat.le_refl _), fun z c h => ?_, fun p hp => absurd (show p ∈ ([] : List (Addr × Obj)) from hp) (by simp), e0.hok.kept hk, rfl⟩
  · have hz : l.scope.names.lookup z = some .cell ∨ l.scope.names.lookup z = some .free := hz
    rcases hz with hz | hz
    · exact absurd rfl (S.nocell _ (PySem.mem_of_lookup hz))
    · rw [S.only z hz]; exact ⟨cell, lk1_self⟩
  · match i with
    | 0 =>
      cases h1
      cases h2
      refine ⟨u, rx, .inl ⟨S.par, ?_⟩⟩
      show [(x, u)].reverse.lookup x = some u
      simp [List.lookup]
    | 1 =>
      cases h1
      cases h2
      exact ⟨uy, ry, .inr ⟨.inr S.fre, cell, lk1_self, hc1⟩⟩
    | i + 2 =>
      exact absurd h1 (by show ([x, y] : List Str)[i + 2]? ≠ some z; simp)
  · rw [(lk1 h).2]; exact ⟨_, hc1⟩
  · rw [(lk1 h).2]; exact hH
theorem lam_run {P : Program} {w : World} {K : PySem.W.Frag} {mg : Str → Option Value} {base : Heap} {x y : Str} {l : Lm} {f c cell : Addr} {A : Around} {outer : List Env} {s : Shared} {H : Hp} {Q : VK} {E : XK} {u uy pm ctv : Value} {vx vy : V} {k : Nat} {t : TE} {args : Args}
    (S : LmScope x y l.scope) (hr : Room (k + 1) A) (e0 : Env0 P w K mg base A outer s H) (rx : RelV vx u) (ry : RelV vy uy) (hc : s.heap.IsCell cell (some uy)) (hH : H cell = none)
    (hf : s.heap.get? f = some (PySem.W.kla_obj "<lambda>" l.qual l.params l.body l.scope [(y, cell)] pm c ctv)) (hcd : s.heap.CodeRec (.ref c) l.qual) (hb : bindArgs (PySem.W.kla_fn "<lambda>" l.qual l.params l.body l.scope [(y, cell)] pm (.ref c) ctv) args = pure [(x, u)])
    (body : Room k (A.deeper (PySem.W.envX l.qual l.scope s.heap.objs.size f (.ref c) [(y, cell)])) → PE (cxLam P w K mg base x y l f c cell A outer s H E) l.body t) (q : t [some vx, some vy] H Q) : codeAny (model P w) A (.call (.ref f) args) (CR CX0 outer P w H s Q E) s := by
  have lim : s.heap.NoLimit := e0.mod.nolimit.keeps fun b o e => (e0.bs b o e).1
  refine PySem.W.kla_callFunE hr.depth hf rfl S.co S.gen rfl hcd ?_
  rw [hb]
  refine wpAny_pure (wpAny_newFunctionEnv S.nocell (fun z hz => by rw [List.mem_singleton.mp hz]; exact S.par) (fun h1 hns hsb => ?_) S.kind)
  have hk1 : ∀ b o, s.heap.get? b = some o → h1.get? b = some o := fun b o e => hsb.extBut b o (Nat.ne_of_lt (Heap.lt_size e)) (Heap.get?_push_of_some _ e)
  refine ⟨lim.keeps hk1, ?_⟩
  show codeAny _ _ (.expr l.body (PySem.W.envX l.qual l.scope s.heap.objs.size f (.ref c) [(y, cell)])) _ _
  have I := inv_lam (f := f) (c := c) (E := E) (tk := s.toks + [(x, u)].length) S hr.hd e0 rx ry hc hH hns hk1
  refine PySem.W.kla_codeExpr (wpAny_mono (body (hr.deeper _) [] _ _ H Q I q) (fun v s' hs => ?_) fun e s' hs => hs)
  obtain ⟨v', H', J, rv, qv⟩ := hs
  exact ⟨v', H', J.os, J.bare, J.base, J.hok, rv, qv⟩
end L2
set_option Elab.async false
set_option linter.all false
set_option maxRecDepth 100000
set_option maxHeartbeats 4000000
namespace L2
open PySem PySem.Spec PyProof.Rows
noncomputable def Calls (P : Program) (w : World) (K : PySem.W.Frag) (mg : Str → Option Value) (base : Heap) (k : Nat) (f : Addr) (r : V → Hp → VK → Prop) : Prop :=
  ∀ (X : Cx), X.prog = P → X.w = w → X.K = K → X.mg = mg → X.base = base → Passes CX0 X E0 → Room k X.A → ∀ pins s σ H vx u (Q : VK), Inv X pins σ H s → RelV vx u → r vx H Q → wpAny (model X.prog X.w) X.A (call (.ref f) [u]) (EP X pins σ Q) X.xe s
noncomputable def rLam (f : Addr) (l : Lm) (y : Str) (cell c : Addr) (t : TE) : V → Hp → VK → Prop := fun vx H Q => ∃ (o : Obj) (uy : Value) (vy : V), H f = some (LamO f l [(y, cell)] c) ∧ H c = some (CodeO c l.qual) ∧ H cell = some (AsIs o) ∧ o.data = .cell (some uy) ∧ RelV vy uy ∧
  t [some vx, some vy] (dropH H cell) fun v H' => Q v (upd H' cell (AsIs o))
theorem calls_lam {P : Program} {w : World} {K : PySem.W.Frag} {mg : Str → Option Value} {base : Heap} {x y : Str} {l : Lm} {f c cell : Addr} {k : Nat} {t : TE} (S : LmScope x y l.scope)
    (hb : ∀ (pm ctv u : Value), bindArgs (PySem.W.kla_fn "<lambda>" l.qual l.params l.body l.scope [(y, cell)] pm (.ref c) ctv) ⟨[u], []⟩ = pure [(x, u)])
    (body : ∀ (A : Around) (outer : List Env) (s : Shared) (H : Hp), Room k (A.deeper (PySem.W.envX l.qual l.scope s.heap.objs.size f (.ref c) [(y, cell)])) → PE (cxLam P w K mg base x y l f c cell A outer s H E0) l.body t) :
    Calls P w K mg base (k + 1) f (rLam f l y cell c t) := by
  intro X e1 e2 e3 e4 e5 hx hr pins s σ H vx u Q I rx h
  subst e1 e2 e3 e4 e5
  obtain ⟨o, uy, vy, hf, hc, hcell, hd, ry, q⟩ := h
  obtain ⟨pm, ctv, ef⟩ := (I.hok f _ hf).1
  have ec : s.heap.CodeRec (.ref c) l.qual := (I.hok c _ hc).1
  have eo : s.heap.get? cell = some o := (I.hok cell _ hcell).1
  have e0 := I.env0
  have nf : cell ∉ frs X.stack := fun z => by
    have := e0.frf cell z
    rw [hcell] at this
    cases this
  have e0' : Env0 X.prog X.w X.K X.mg X.base X.A X.stack s (dropH H cell) := ⟨e0.frames, e0.mod, fun b ob e => ⟨(e0.bs b ob e).1, by
    by_cases z : b = cell
    · rw [z]; exact drop_same
    · rw [drop_ne z]; exact (e0.bs b ob e).2⟩, e0.bsz, e0.funs, fun b hb => by
    by_cases z : b = cell
    · rw [z]; exact drop_same
    · rw [drop_ne z]; exact e0.frf b hb, e0.hok.drop hcell, e0.bare⟩
  refine wpAny_call (codeAny_mono (lam_run (E := E0) S hr e0' rx ry ⟨o, eo, hd⟩ drop_same ef ec (hb pm ctv u) (body X.A X.stack s (dropH H cell)) q) fun r s' hq => ?_)
  cases r with
  | error e => exact False.elim hq
  | ok fl =>
    cases fl with
    | ret u =>
      obtain ⟨v, H', os, bare, un, hok, rv, qv⟩ := hq
      obtain ⟨un', n', e'⟩ := un.back hcell eo nf (by simp)
      exact I.after ⟨v, _, os, bare, un', hok.take n' e', rv, qv⟩
    | next => exact False.elim hq
    | brk => exact False.elim hq
    | cont => exact False.elim hq
noncomputable def tCallV (P : Program) (w : World) (K : PySem.W.Frag) (mg : Str → Option Value) (base : Heap) (k i : Nat) (te : TE) : TE := fun σ H Q => ∃ f l cl c r, σ[i]? = some (some (.ref f)) ∧ Calls P w K mg base k f r ∧ H f = some (LamO f l cl c) ∧ te σ H fun v H1 => H1 f = some (LamO f l cl c) ∧ r v H1 Q
theorem fnAt_lam {X : Cx} {pins : List (Addr × Obj)} {s : Shared} {σ : St} {H : Hp} {f c : Addr} {l : Lm} {cl : List (Str × Addr)} (I : Inv X pins σ H s) (h : H f = some (LamO f l cl c)) : PySem.W.FnAt f s.heap := by
  obtain ⟨pm, ctv, e⟩ := (I.hok f _ h).1
  exact ⟨_, _, _, _, e⟩
theorem pe_callV {X : Cx} {k i : Nat} {n : Str} {e : Expr} {te : TE} {p pos : Pos} (hr : Room k X.A) (hx : Passes CX0 X E0) (hn : PE X (.Name n p) (tVar i)) (he : PE X e te) (hs : starEach [e] X.env = [(false, eval e X.env)] := by rfl) (hs0 : starEach ([] : List Expr) X.env = [] := by rfl) (hpl : (backTo pos (starEach [] X.env)).any (·.1) = false := by rfl) :
    PE X (.Call (.Name n p) [e] [] pos) (tCallV X.prog X.w X.K X.mg X.base k i te) := by
  intro pins s σ H Q I h
  obtain ⟨f, l, cl, c, r, hi, C, hf, h⟩ := h
  refine wpAny_Call_Name_kw (thn (hn pins s σ H (fun v H1 => v = .ref f ∧ H1 = H) I ⟨_, hi, rfl, rfl⟩) fun u s1 ⟨v, H1, I1, ru, ev, eh⟩ => ?_)
  subst ev eh
  obtain rfl : u = Value.ref f := ru
  refine PySem.W.callWith_F (fnAt_lam I1 hf) ?_ (by rw [hs, hs0]) hpl
  rw [hs]
  refine Calls.spliced_cons (thn (he pins s1 σ H1 _ I1 h) fun iv s2 ⟨v, H2, I2, rv, hf2, q⟩ => ?_)
  refine Calls.spliced_nil ⟨fnAt_lam I2 hf2, ?_⟩
  exact C X rfl rfl rfl rfl rfl hx hr pins s2 σ H2 v iv Q I2 rv q
end L2
set_option Elab.async false
set_option linter.all false
set_option maxRecDepth 100000
set_option maxHeartbeats 4000000
namespace L2
open PySem PySem.Spec PyProof.Rows
theorem Inv.cellAt {X : Cx} {pins : List (Addr × Obj)} {s : Shared} {σ : St} {H : Hp} {i : Nat} {y : Str} {vy : V} {cell : Addr} (I : Inv X pins σ H s) (hN : X.N[i]? = some y) (hi : σ[i]? = some (some vy)) (hk : X.env.kindOf y = some .cell) (hv : Vis X.env.scope y) (hl : X.env.cells.lookup y = some cell) :
    ∃ o uy, s.heap.get? cell = some o ∧ o.data = .cell (some uy) ∧ RelV vy uy ∧ H cell = none := by
  obtain ⟨m, _, loc⟩ := I.loc
  obtain ⟨u, ru, lk⟩ := loc i y vy hN hi hv
  rcases lk with ⟨k, _⟩ | ⟨_, c, e, o, e1, e2⟩
  · rw [hk] at k; cases k
  · rw [hl] at e
    cases e
    exact ⟨o, u, e1, e2, ru, I.freeC y cell hl⟩
theorem Inv.cellOut {X : Cx} {pins : List (Addr × Obj)} {s : Shared} {σ : St} {H : Hp} {y : Str} {cell : Addr} (I : Inv X pins σ H s) (hf : X.fn y = true) (hl : X.env.cells.lookup y = some cell) : cell ∉ frs X.stack := fun z => by
  have ab := I.ok.cab y cell hf hl
  have no : cell ∉ frs X.outer := fun z => by
    obtain ⟨_, o, ho, _⟩ := I.ok.funs.mem z
    exact absurd (Heap.lt_size ho) (Nat.not_lt.mpr ab)
  rcases I.ok.stk with e | ⟨e, fr⟩
  · rw [e] at z; exact no z
  · rw [e] at z
    unfold frs at z
    rw [List.filterMap_cons, fr] at z
    rcases List.mem_cons.mp z with z | z
    · exact I.cne y cell hl z
    · exact no z
noncomputable def tCallC (sp : Sp) (i : Nat) (cell : Addr) (t : TA) : TE := fun σ H Q => t σ H fun vs H1 => ∃ vy, σ[i]? = some (some vy) ∧ ∀ o uy, o.data = .cell (some uy) → RelV vy uy → H1 cell = none → sp vs (upd H1 cell (AsIs o)) (fun v H2 => Q v (dropH H2 cell)) E0
theorem pe_fnC {X : Cx} {x y : Str} {ps : List Str} {k i : Nat} {sp : Sp} {e : Expr} {es : List Expr} {t : TA} {p pos : Pos} {cell : Addr} (F : Fn X.prog X.w X.K X.mg X.base x ps k sp) (hr : Room k X.A) (hg : Gl X x) (ha : PA X (e :: es) t)
    (hN : X.N[i]? = some y) (hky : X.env.kindOf y = some .cell) (hv : Vis X.env.scope y) (hl : X.env.cells.lookup y = some cell) (hfn : X.fn y = true)
    (hdb : (x == ("__debug__" : Str)) = false := by decide) (he : starEach (e :: es) X.env = (false, eval e X.env) :: starEach es X.env := by rfl) (hpl : (backTo pos (starEach es X.env)).any (·.1) = false := by rfl) :
    PE X (.Call (.Name x p) (e :: es) [] pos) (tCallC sp i cell t) := by
  obtain ⟨f, fd, G, hm, hk, hb⟩ := F.ex
  intro pins s σ H Q I h
  refine wpAny_Call_Name_kw (ld_glob I hg hm ?_ hdb)
  refine PySem.W.callWith_K (h₀ := X.base) I.ok.mod.kin hk (thn (ha pos pins s σ H _ I h) fun us s1 ⟨vs, H1, I1, r, q⟩ => ⟨I1.kIn, ?_⟩) he hpl
  obtain ⟨vy, hi, q⟩ := q
  obtain ⟨o, uy, e1, e2, ry, hn⟩ := I1.cellAt hN hi hky hv hl
  have nf := I1.cellOut hfn hl
  have ab := I1.ok.cab y cell hfn hl
  have e0 := I1.env0
  have e0' : Env0 X.prog X.w X.K X.mg X.base X.A X.stack s1 (upd H1 cell (AsIs o)) := ⟨e0.frames, e0.mod, fun b ob e => ⟨(e0.bs b ob e).1, by
    rw [upd_ne]
    · exact (e0.bs b ob e).2
    · intro z
      have := Heap.lt_size (I1.ok.bs b ob e).1
      rw [z] at this
      exact absurd this (Nat.not_lt.mpr ab)⟩, e0.bsz, e0.funs, fun b hb => by
    rw [upd_ne]
    · exact e0.frf b hb
    · intro z; rw [z] at hb; exact nf hb, e0.hok.take hn e1, e0.bare⟩
  have hl2 : us.length = ps.length := by rw [← r.length]; exact G.len _ _ _ _ (q o uy e2 ry hn)
  refine wpAny_call (codeAny_mono (G.run X.A X.stack s1 _ ⟨us, []⟩ us vs _ E0 hr e0' (by have := hb s1 us I1.kIn (by rw [List.append_nil]; exact hl2); rwa [List.append_nil] at this) r (q o uy e2 ry hn)) fun rr s' hq => ?_)
  cases rr with
  | error e => exact False.elim hq
  | ok fl =>
    cases fl with
    | ret u =>
      obtain ⟨v, H', os, bare, un, hok, rv, qv⟩ := hq
      obtain ⟨un', hok', _⟩ := un.out hok hn e1 nf
      exact I1.after ⟨v, _, os, bare, un', hok', rv, qv⟩
    | next => exact False.elim hq
    | brk => exact False.elim hq
    | cont => exact False.elim hq
end L2
set_option Elab.async false
set_option linter.all false
set_option maxRecDepth 100000
set_option maxHeartbeats 4000000
namespace L2
open PySem PySem.Spec PyProof.Rows
structure FunC (K : PySem.W.Frag) (x qual : Str) (st : Stmt) (f : Addr) (fd : FuncData) (c : Addr) : Prop where
  ex : ∃ oc od kV doc pm an ct osl, fd = PySem.W.fnOf x qual (defArgs st) (defBody st) (defScope st) .none kV doc pm an (.ref c) ct ∧ K.lookup f = some ⟨oc, od, .func (PySem.W.fnOf x qual (defArgs st) (defBody st) (defScope st) .none kV doc pm an (.ref c) ct), osl⟩ ∧ PySem.W.codeIn K (.ref c) qual = true
section
variable {P : Program} {w : World} {K : PySem.W.Frag} {mg : Str → Option Value} {base : Heap}
theorem FunC.ok {x qual : Str} {st : Stmt} {f c : Addr} {fd : FuncData} {N ps : List Str} {k : Nat} {sp : Sp} (F : FunC K x qual st f fd c) (S : FnScope N ps (defScope st)) (len : ∀ vs H Q E, sp vs H Q E → vs.length = ps.length)
    (hbody : ∀ (A : Around) (outer : List Env) (s : Shared) (H : Hp) (vs : List V) (Q : VK) (E : XK), Room k (A.deeper (envOfC qual (defScope st) s.heap.objs.size f (.ref c))) → sp vs H Q E →
      ∃ t, PSs (cxOf CX0 P w K mg base N qual (defScope st) f (.ref c) A outer s H E).nox (defBody st) t ∧ t { nx := fun _ H' => Q .non H', rt := Q } (start N vs) H) : FnOk P w K mg base CX0 (k + 1) f fd ps sp := by
  obtain ⟨oc, od, kV, doc, pm, an, ct, osl, rfl, lk, hcd⟩ := F.ex
  refine fn_of lk hcd S len fun A outer s H vs Q E hr hsp => ?_
  obtain ⟨t, h, q⟩ := hbody A outer s H vs Q E hr hsp
  exact ⟨t, h.nox, q⟩
end
end L2
set_option Elab.async false
set_option linter.all false
set_option maxRecDepth 100000
set_option maxHeartbeats 4000000
namespace L2
open PySem PySem.Spec PyProof.Rows
structure OnlyT (tabs : List (Addr × Addr)) (H : Hp) : Prop where
  tab : ∀ q ∈ tabs, H q.2 = some (.tbl #[])
  other : ∀ b, b ∉ tabs.map (·.2) → H b = none ∨ ∃ o xs, H b = some (.frz o (.lst xs))
theorem law_callT {P : Program} {w : World} {K : PySem.W.Frag} {mg mb : Str → Option Value} {CX : CXT} {k : Nat} {fa a : Addr} {fd : FuncData} {x : Str} {sp : Sp} {s₁ : Shared} {vs : List Value} {ns : List Int} {tabs : List (Addr × Addr)}
    (KX : K.In s₁.heap) (hns : s₁.heap.Ns mainGlobals mg) (hb : s₁.heap.Ns builtinsNs mb) (hbb : ∀ x : Str, x ≠ "__name__" → mb x = bootBuiltins x) (hlim : s₁.heap.NoLimit) (hg : s₁.gens = #[])
    (hbm : BMain s₁.heap mg) (hT : PySem.W.TabsAt tabs s₁.heap) (hTK : ∀ q ∈ tabs, K.lookup q.2 = none)
    (ha : s₁.heap.get? a = some { cls := .type "list", data := .seq vs.toArray }) (hi : IntsAre vs ns) (hl : ns.length ≤ sizeLine) (hr : Room k callerA)
    (F : ∀ base : Heap, K.In base → base.Ns mainGlobals mg → BMain base mg → FnOk P w K mg base CX k fa fd [x] sp) (hbind : ∀ (s : Shared) (u : Value), BindsTo s fd ⟨[u], []⟩ [(x, u)])
    (hsp : ∀ H : Hp, OnlyT tabs H → SqL K H a (ns.map V.int) → sp [.ref a] H (fun v _ => v = .bl true) fun _ _ _ => False)
    (hCX : ∀ H e s', CX [] H s₁ (fun _ _ _ => False) e s' → False) :
    codeAny (model P w) callerA (.call (.ref fa) ⟨[.ref a], []⟩) (fun r s' => r = .ok (.ret (.bool true)) ∧ OldK s₁.heap s'.heap ∧ s'.os = s₁.os ∧ AllBare s'.gens) s₁ := by
  have rv := vals_ints hi
  have lenV := hi.length
  have naT : a ∉ tabs.map (·.2) := fun q => by
    obtain ⟨r, hr, e⟩ := List.mem_map.mp q
    have e2 := (hT r hr).2
    rw [e, ha] at e2
    cases e2
  have core : ∀ H : Hp, OnlyT tabs H → SqL K H a (ns.map V.int) → HOk P w H s₁.heap → (∀ b, H b ≠ none → b = a ∨ b ∈ tabs.map (·.2)) → (H a ≠ none → K.lookup a = none) →
      codeAny (model P w) callerA (.call (.ref fa) ⟨[.ref a], []⟩) (fun r s' => r = .ok (.ret (.bool true)) ∧ OldK s₁.heap s'.heap ∧ s'.os = s₁.os ∧ AllBare s'.gens) s₁ := by
    intro H hO hS hok hA hK
    have base_of : ∀ {b : Addr} {o : Obj}, s₁.heap.get? b = some o → H b = none → (hidT s₁.heap H).get? b = some o := fun e n => hidT_get e n
    have noA : ∀ {b : Addr} {o : Obj}, s₁.heap.get? b = some o → (∀ ps n, o.data ≠ .seq ps n) → (∀ ps, o.data ≠ .fields ps) → H b = none := fun {b o} e d1 d2 => by
      cases q : H b with
      | none => rfl
      | some u =>
        rcases hA b (by rw [q]; simp) with e' | e'
        · subst e'
          rw [ha] at e; cases e
          exact absurd rfl (d1 _ _)
        · obtain ⟨r, hr, er⟩ := List.mem_map.mp e'
          have e2 := (hT r hr).2
          rw [er, e] at e2
          cases e2
          exact absurd rfl (d2 _)
    have nsK : ∀ {b : Addr} {m : Str → Option Value}, s₁.heap.Ns b m → (hidT s₁.heap H).Ns b m := fun {b m} ⟨o, es, ep, e, d, r⟩ => ⟨o, es, ep, base_of e (noA e (fun _ _ z => by rw [d] at z; cases z) (fun _ z => by rw [d] at z; cases z)), d, r⟩
    have hKb : K.In (hidT s₁.heap H) := fun b o e => base_of (KX b o e) (by
      cases q : H b with
      | none => rfl
      | some u =>
        rcases hA b (by rw [q]; simp) with e' | e'
        · subst e'
          rw [hK (by rw [q]; simp)] at e; cases e
        · obtain ⟨r, hr, er⟩ := List.mem_map.mp e'
          have e2 := hTK r hr
          rw [er, e] at e2
          cases e2)
    have hM : Mod K mg (hidT s₁.heap H) := ⟨hKb, nsK hns, ⟨mb, nsK hb, hbb⟩, let ⟨mc, h1, h2⟩ := hlim; ⟨mc, nsK h1, h2⟩⟩
    have hB : BMain (hidT s₁.heap H) mg := by
      obtain ⟨bm, ob, b1, b2, b3, b4, b5, b6, b7⟩ := hbm
      exact ⟨bm, ob, b1, b2, b3, base_of b4 (noA b4 (fun _ _ z => by rw [b7] at z; cases z) (fun _ z => by rw [b7] at z; cases z)), b5, b6, b7⟩
    have e0 : Env0 P w K mg (hidT s₁.heap H) callerA [] s₁ H := ⟨rfl, hM, fun b o e => of_hidT e, Nat.le_of_eq (hidT_size _ _), trivial, fun b hb => absurd (show b ∈ ([] : List Addr) from hb) (by simp), hok, .of_eq hg⟩
    refine codeAny_mono ((F _ hKb (nsK hns) hB).run callerA [] s₁ H ⟨[.ref a], []⟩ [.ref a] [.ref a] _ _ hr e0 (hbind s₁ (.ref a)) (.cons rfl .nil) (hsp H hO hS)) fun r s' h => ?_
    cases r with
    | error e => exact (hCX H e s' h).elim
    | ok fl =>
      cases fl with
      | next => exact False.elim h
      | brk => exact False.elim h
      | cont => exact False.elim h
      | ret u =>
        obtain ⟨v, H', os, bare, un, hok', r', q⟩ := h
        have q' : v = .bl true := q
        subst q'
        obtain rfl : u = Value.bool true := r'
        refine ⟨rfl, ⟨fun b o e => ?_, fun b o e => un.there b o e (by simp)⟩, os, bare⟩
        cases q : H b with
        | none => exact .inl (un.keep b o e q (by intro z; exact absurd (show b ∈ ([] : List Addr) from z) (by simp)) (by simp))
        | some u =>
          by_cases hb : b ∈ tabs.map (·.2)
          · obtain ⟨r, hr, er⟩ := List.mem_map.mp hb
            have t1 := hO.tab r hr
            have e2 := (hT r hr).2
            have ict := ((hT r hr).1.tab (hT r hr).2).isCodeTable
            rw [er] at t1 e2 ict
            rw [e] at e2
            cases e2
            obtain ⟨more, t2⟩ := un.tbls b _ t1
            have t3 : s'.heap.get? b = some { cls := .none, data := .fields (#[] ++ more) } := hok' b _ t2
            exact .inr (.inl ⟨ict, rfl, #[], more, rfl, t3⟩)
          · rcases hO.other b hb with z | ⟨ob, xs, z⟩
            · rw [q] at z; cases z
            · have z2 := un.frzs b ob _ z
              obtain ⟨e1, _⟩ := hok b _ z
              obtain ⟨e2, _⟩ := hok' b _ z2
              rw [e] at e1; cases e1
              exact .inl e2
  let HT : Hp := fun b => if b ∈ tabs.map (·.2) then some (.tbl #[]) else none
  have htab : ∀ b, b ∈ tabs.map (·.2) → s₁.heap.get? b = some (PySem.W.tabObj #[]) := fun b hb => by
    obtain ⟨r, hr, er⟩ := List.mem_map.mp hb
    rw [← er]; exact (hT r hr).2
  cases hk : K.lookup a with
  | some o =>
    have e := KX a o hk
    rw [ha] at e
    cases e
    refine core HT ⟨fun q hq => if_pos (List.mem_map.mpr ⟨q, hq, rfl⟩), fun b hb => .inl (if_neg hb)⟩ (.inr ⟨_, vs.toArray, _, hk, rfl, rfl, rfl, by rw [List.size_toArray, lenV]; exact hl, by simpa using rv⟩) (fun b u z => ?_) (fun b z => ?_) fun z => absurd (if_neg naT) z
    · by_cases hb : b ∈ tabs.map (·.2)
      · have z' := (if_pos hb).symm.trans z
        cases z'
        exact htab b hb
      · have z' := (if_neg hb).symm.trans z
        cases z'
    · by_cases hb : b ∈ tabs.map (·.2)
      · exact .inr hb
      · exact absurd (if_neg hb) z
  | none =>
    let HA : Hp := fun b => if b = a then some (.frz { cls := .type "list", data := .seq vs.toArray } (.lst (ns.map V.int))) else HT b
    have hA1 : HA a = some (.frz { cls := .type "list", data := .seq vs.toArray } (.lst (ns.map V.int))) := if_pos rfl
    have hA2 : ∀ b, b ≠ a → HA b = HT b := fun b h => if_neg h
    refine core HA ⟨fun q hq => ?_, fun b hb => ?_⟩ (.inl (.inr ⟨{ cls := .type "list", data := .seq vs.toArray }, hA1⟩)) (fun b u z => ?_) (fun b z => ?_) fun _ => hk
    · rw [hA2 _ fun z => naT (List.mem_map.mpr ⟨q, hq, z⟩)]
      exact if_pos (List.mem_map.mpr ⟨q, hq, rfl⟩)
    · by_cases hba : b = a
      · subst hba; exact .inr ⟨_, _, hA1⟩
      · rw [hA2 b hba]; exact .inl (if_neg hb)
    · by_cases hba : b = a
      · subst hba
        rw [hA1] at z
        cases z
        exact ⟨ha, by rw [List.length_map]; exact hl, vs, _, rv, ha⟩
      · rw [hA2 b hba] at z
        by_cases hb : b ∈ tabs.map (·.2)
        · have z' := (if_pos hb).symm.trans z
          cases z'
          exact htab b hb
        · have z' := (if_neg hb).symm.trans z
          cases z'
    · by_cases hba : b = a
      · exact .inl hba
      · rw [hA2 b hba] at z
        by_cases hb : b ∈ tabs.map (·.2)
        · exact .inr hb
        · exact absurd (if_neg hb) z
theorem bmain_of {p : Program} {loose : List Str} {mean : ExcName → Option Value} {mg mb : Str → Option Value} {h : Heap} (T : Top p loose mean mg mb h) : BMain h mg := by
  obtain ⟨bm, ob, b1, b2, b3, b4, b5, b6⟩ := T.bmain
  refine ⟨bm, ob, b1, b2, fun q => ?_, b3, b4, b5, b6⟩
  obtain ⟨o, es, ep, e, hd, _⟩ := T.g
  rw [q, e] at b3; cases b3; rw [hd] at b6; cases b6
theorem walk_ofT {l : PySem.W.OpenLaw} {n k : Nat} {q : Program} {loose : List Str} {XP : (Str → Option Value) → Heap → Prop} {YP : World → Heap → Prop} {d : DefRec} {K : Params → PySem.W.Frag} {CX : World → CXT} {sp : World → Sp} {x : Str} (tabs : World → List (Addr × Addr))
    (hn : l.most = some n) (hn2 : n ≤ sizeLine) (hdf : d.params.defaults = []) (hr : Room k callerA)
    (hY : ∀ (w : World) (h : Heap), YP w h → (K w.params).In h) (hY2 : ∀ (w : World) (h : Heap), YP w h → PySem.W.TabsAt (tabs w) h) (hTK : ∀ (w : World), ∀ q ∈ tabs w, (K w.params).lookup q.2 = none)
    (F : ∀ (w : World) (mg : Str → Option Value) (fa : Addr) (h : Heap), (K w.params).In h → h.Ns mainGlobals mg → mg d.name = some (.ref fa) →
      ∃ fd : FuncData, (∀ (s : Shared) (u : Value), BindsTo s fd ⟨[u], []⟩ [(x, u)]) ∧
        ∀ base : Heap, (K w.params).In base → base.Ns mainGlobals mg → BMain base mg → FnOk l.prog w (K w.params) mg base (CX w) k fa fd [x] (sp w))
    (hsp : ∀ (w : World) (H : Hp) (a : Addr) (ns : List Int), ns.length ≤ n → OnlyT (tabs w) H → SqL (K w.params) H a (ns.map V.int) → sp w [.ref a] H (fun v _ => v = .bl true) fun _ _ _ => False)
    (hCX : ∀ (w : World) (H : Hp) (s : Shared) (e : Value) (s' : Shared), CX w [] H s (fun _ _ _ => False) e s' → False) :
    PySem.W.WalkO q loose XP YP l.row.toRowW d [] (fun f vs => PySem.call f vs) := by
  refine Att.attach_call hn hdf fun w s₀ s₁ mg mb fa o pm cd doc a vs ns G Y ho hd hcd hmg hobj hints hlen hg => ?_
  have KX := hY w _ Y
  obtain ⟨fd, hb, hF⟩ := F w mg fa _ KX G.T.g hmg
  exact law_callT KX G.T.g G.T.b G.T.builtins G.T.nolimit hg (bmain_of G.T) (hY2 w _ Y) (hTK w) hobj hints (Nat.le_trans hlen hn2) hr hF hb (fun H hO hS => hsp w H a ns hlen hO hS) fun H e s' => hCX w H s₁ e s'
noncomputable def makers (K : PySem.W.Frag) (ts : List Addr) : List (Addr × Addr) := ts.flatMap fun T => (K.filter fun p => PySem.W.codeHdIn K p.1 T).map fun p => (p.1, T)
noncomputable def makersOk (K : PySem.W.Frag) (ts : List Addr) : Bool := ts.all fun T => (K.any fun p => PySem.W.codeHdIn K p.1 T) && (K.lookup T).isNone
theorem makers_mem {K : PySem.W.Frag} {ts : List Addr} {q : Addr × Addr} (h : q ∈ makers K ts) : q.2 ∈ ts ∧ PySem.W.codeHdIn K q.1 q.2 = true := by
  obtain ⟨T, hT, h⟩ := List.mem_flatMap.mp h
  obtain ⟨p, hp, rfl⟩ := List.mem_map.mp h
  exact ⟨hT, (List.mem_filter.mp hp).2⟩
theorem makers_has {K : PySem.W.Frag} {ts : List Addr} (ok : makersOk K ts = true) {T : Addr} (hT : T ∈ ts) : ∃ c, (c, T) ∈ makers K ts := by
  have h := List.all_eq_true.mp ok T hT
  rw [Bool.and_eq_true] at h
  obtain ⟨p, hp, e⟩ := List.any_eq_true.mp h.1
  exact ⟨p.1, List.mem_flatMap.mpr ⟨T, hT, List.mem_map.mpr ⟨p, List.mem_filter.mpr ⟨hp, e⟩, rfl⟩⟩⟩
theorem makers_out {K : PySem.W.Frag} {ts : List Addr} (ok : makersOk K ts = true) {T : Addr} (hT : T ∈ ts) : K.lookup T = none := by
  have h := List.all_eq_true.mp ok T hT
  rw [Bool.and_eq_true] at h
  exact Option.isNone_iff_eq_none.mp h.2
theorem walk_ofM {l : PySem.W.OpenLaw} {n k : Nat} {q : Program} {loose : List Str} {XP : (Str → Option Value) → Heap → Prop} {d : DefRec} {K : Params → PySem.W.Frag} {as : List Addr} {e : ∀ P, as = (K P).map (·.1)} {ts : List Addr} {CX : World → CXT} {sp : World → Sp} {x : Str}
    (hn : l.most = some n) (hn2 : n ≤ sizeLine) (hdf : d.params.defaults = []) (hr : Room k callerA) (ok : ∀ w : World, makersOk (K w.params) ts = true)
    (F : ∀ (w : World) (mg : Str → Option Value) (fa : Addr) (h : Heap), (K w.params).In h → h.Ns mainGlobals mg → mg d.name = some (.ref fa) →
      ∃ fd : FuncData, (∀ (s : Shared) (u : Value), BindsTo s fd ⟨[u], []⟩ [(x, u)]) ∧
        ∀ base : Heap, (K w.params).In base → base.Ns mainGlobals mg → BMain base mg → FnOk l.prog w (K w.params) mg base (CX w) k fa fd [x] (sp w))
    (hsp : ∀ (w : World) (H : Hp) (a : Addr) (ns : List Int), ns.length ≤ n → (∀ T ∈ ts, H T = some (.tbl #[])) → SqL (K w.params) H a (ns.map V.int) → sp w [.ref a] H (fun v _ => v = .bl true) fun _ _ _ => False)
    (hCX : ∀ (w : World) (H : Hp) (s : Shared) (e : Value) (s' : Shared), CX w [] H s (fun _ _ _ => False) e s' → False) :
    PySem.W.WalkO q loose XP (PySem.W.kmHook K as e ts).says l.row.toRowW d [] (fun f vs => PySem.call f vs) := by
  refine walk_ofT (fun w => makers (K w.params) ts) hn hn2 hdf hr (fun w h Y => PySem.W.km_in_of Y) (fun w h Y q hq => ?_) (fun w q hq => makers_out (ok w) (makers_mem hq).1) F (fun w H a ns h1 hO hS => hsp w H a ns h1 (fun T hT => ?_) hS) hCX
  · obtain ⟨h1, h2⟩ := makers_mem hq
    exact ⟨PySem.W.codeHd_of_K (PySem.W.km_in_of Y) h2, PySem.W.km_tabs_of Y _ h1⟩
  · obtain ⟨c, hc⟩ := makers_has (ok w) hT
    exact hO.tab _ hc
end L2
set_option Elab.async false
set_option linter.all false
set_option maxRecDepth 100000
set_option maxHeartbeats 4000000
namespace L2
open PySem PySem.Spec PyProof.Rows
noncomputable def Fz : HO → Prop
  | .dK _ => True
  | .dT _ => True
  | .lst _ => True
  | _ => False
noncomputable def back (H : Hp) (a : Addr) (H' : Hp) : Hp := fun b => if b = a then H a else H' b
theorem back_same {H H' : Hp} {a : Addr} : back H a H' a = H a := if_pos rfl
theorem back_ne {H H' : Hp} {a b : Addr} (h : b ≠ a) : back H a H' b = H' b := if_neg h
section
variable {X : Cx} {pins : List (Addr × Obj)} {σ σ' : St} {H H' : Hp} {s s' : Shared} {a : Addr} {u : HO} {o : Obj}
theorem rd_some (r : Rd H a u) : ∃ v, H a = some v := by
  rcases r with r | ⟨o, r⟩ <;> exact ⟨_, r⟩
theorem rd_fz (r : Rd H a u) (f : Fz u) : (∀ xs, H a ≠ some (.tup xs)) ∧ (∀ ps, H a ≠ some (.tbl ps)) ∧ (∀ x, H a ≠ some (.own x)) ∧ ∀ ob v, H a = some (.frz ob v) → v = u := by
  rcases r with r | ⟨o, r⟩
  · refine ⟨fun xs z => ?_, fun ps z => ?_, fun x z => ?_, fun ob v z => ?_⟩ <;> (rw [r] at z; cases z; exact f.elim)
  · refine ⟨fun xs z => ?_, fun ps z => ?_, fun x z => ?_, fun ob v z => ?_⟩ <;> (rw [r] at z; cases z)
    rfl
theorem Inv.freeze (I : Inv X pins σ H s) (r : Rd H a u) (f : Fz u) (e : s.heap.get? a = some o) : Inv X pins σ (upd H a (.frz o u)) s := by
  obtain ⟨v, hv⟩ := rd_some r
  obtain ⟨n1, n2, n3, n4⟩ := rd_fz r f
  have ne : ∀ {b}, H b = none → b ≠ a := fun h z => by rw [z, hv] at h; cases h
  have ok := r.ok I.hok
  refine ⟨I.ok, I.os, I.bare, ⟨I.base.keep, I.base.slot, fun b ob q n hx => ?_, I.base.there, fun b xs q => ?_, fun b ob w q => ?_, fun b ps q => ?_⟩, I.loc, I.cell, ?_, fun x c h => ?_, fun p hp => ?_, fun b w q => ?_, I.len⟩
  · have := I.base.free b ob q n hx
    rw [upd_ne (ne this)]; exact this
  · have := I.base.tups b xs q
    rw [upd_ne (fun z => n1 xs (by rw [← z]; exact this))]; exact this
  · have z := I.base.frzs b ob w q
    by_cases hb : b = a
    · subst hb
      have ew := n4 ob w z
      subst ew
      obtain ⟨e1, _⟩ := I.hok b _ z
      rw [e] at e1
      cases e1
      exact upd_same
    · rw [upd_ne hb]; exact z
  · obtain ⟨more, z⟩ := I.base.tbls b ps q
    exact ⟨more, by rw [upd_ne (fun y => n2 _ (by rw [← y]; exact z))]; exact z⟩
  · rw [upd_ne (ne I.free)]; exact I.free
  · rw [upd_ne (ne (I.freeC x c h))]; exact I.freeC x c h
  · obtain ⟨p1, p2, p3, p4, p5⟩ := I.pin p hp
    exact ⟨p1, by rw [upd_ne (ne p2)]; exact p2, p3, p4, p5⟩
  · have st : ∀ {b w}, ObjOk X.prog X.w H s.heap b w → ObjOk X.prog X.w (upd H a (.frz o u)) s.heap b w := fun h => h.stay (fun _ _ _ q => q) (fun d q => by rw [upd_ne (fun z => n3 _ (by rw [← z]; exact q))]; exact q) fun d xs q => by rw [upd_ne (fun z => n1 _ (by rw [← z]; exact q))]; exact q
    by_cases hb : b = a
    · subst hb
      rw [upd_same] at q
      cases q
      exact ⟨e, st ok⟩
    · rw [upd_ne hb] at q
      exact st (I.hok b w q)
theorem Inv.thaw (I : Inv X pins σ H s) (r : Rd H a u) (f : Fz u) (e : s.heap.get? a = some o) (J : Inv X pins σ' H' s') (h' : H' a = some (.frz o u)) : Inv X pins σ' (back H a H') s' := by
  obtain ⟨v, hv⟩ := rd_some r
  obtain ⟨n1, n2, n3, n4⟩ := rd_fz r f
  have ne : ∀ {b}, H' b = none → b ≠ a := fun h z => by rw [z, h'] at h; cases h
  have ok := J.hok a _ h'
  refine ⟨J.ok, J.os, J.bare, ⟨J.base.keep, J.base.slot, fun b ob q n hx => ?_, J.base.there, fun b xs q => ?_, fun b ob w q => ?_, fun b ps q => ?_⟩, J.loc, J.cell, ?_, fun x c h => ?_, fun p hp => ?_, fun b w q => ?_, J.len⟩
  · have := J.base.free b ob q n hx
    rw [back_ne (ne this)]; exact this
  · have := J.base.tups b xs q
    rw [back_ne (fun z => by rw [z, h'] at this; cases this)]; exact this
  · by_cases hb : b = a
    · subst hb
      rw [back_same]
      exact I.base.frzs b ob w q
    · rw [back_ne hb]; exact J.base.frzs b ob w q
  · obtain ⟨more, z⟩ := J.base.tbls b ps q
    exact ⟨more, by rw [back_ne (fun y => by rw [y, h'] at z; cases z)]; exact z⟩
  · rw [back_ne (ne J.free)]; exact J.free
  · rw [back_ne (ne (J.freeC x c h))]; exact J.freeC x c h
  · obtain ⟨p1, p2, p3, p4, p5⟩ := J.pin p hp
    exact ⟨p1, by rw [back_ne (ne p2)]; exact p2, p3, p4, p5⟩
  · have st : ∀ {b w}, ObjOk X.prog X.w H' s'.heap b w → ObjOk X.prog X.w (back H a H') s'.heap b w := fun h => h.stay (fun _ _ _ q => q) (fun d q => by rw [back_ne (fun z => by rw [z, h'] at q; cases q)]; exact q) fun d xs q => by rw [back_ne (fun z => by rw [z, h'] at q; cases q)]; exact q
    by_cases hb : b = a
    · subst hb
      rw [back_same] at q
      rcases r with r | ⟨o2, r⟩
      · rw [r] at q
        cases q
        exact st ok.2
      · obtain ⟨e2, _⟩ := I.hok b _ r
        rw [e] at e2
        cases e2
        rw [r] at q
        cases q
        exact ⟨ok.1, st ok.2⟩
    · rw [back_ne hb] at q
      exact st (J.hok b w q)
noncomputable def thawD (D : Ends) (H : Hp) (a : Addr) (o : Obj) (u : HO) : Ends where
  nx := fun σ' H' => H' a = some (.frz o u) ∧ D.nx σ' (back H a H')
  bk := fun σ' H' => H' a = some (.frz o u) ∧ D.bk σ' (back H a H')
  ct := fun σ' H' => H' a = some (.frz o u) ∧ D.ct σ' (back H a H')
  rt := fun v H' => H' a = some (.frz o u) ∧ D.rt v (back H a H')
noncomputable def tFrz (t : TS) : TS := fun D σ H => ∃ a u, Rd H a u ∧ Fz u ∧ ∀ o, t (thawD D H a o u) σ (upd H a (.frz o u))
theorem ps_frz {st : Stmt} {t : TS} (h : PS X st t) : PS X st (tFrz t) := by
  intro pins s σ H D I q
  obtain ⟨a, u, r, f, q⟩ := q
  obtain ⟨v, hv⟩ := rd_some r
  obtain ⟨o, e⟩ : ∃ o, s.heap.get? a = some o := by
    rcases r with r | ⟨o, r⟩
    · have := (I.hok a _ r)
      cases u with
      | lst xs => obtain ⟨_, _, _, _, e⟩ := this; exact ⟨_, e⟩
      | dK kvs => obtain ⟨_, _, _, _, o, _, _, e, _⟩ := this; exact ⟨_, e⟩
      | dT kvs => obtain ⟨_, _, _, _, o, _, _, e, _⟩ := this; exact ⟨_, e⟩
      | _ => exact f.elim
    · exact ⟨o, (I.hok a _ r).1⟩
  refine wpAny_mono (h pins s σ _ _ (I.freeze r f e) (q o)) (fun fl s' z => ?_) fun _ _ z => z
  cases fl with
  | next => obtain ⟨σ', H', J, h1, h2⟩ := z; exact ⟨σ', _, I.thaw r f e J h1, h2⟩
  | brk => obtain ⟨σ', H', J, h1, h2⟩ := z; exact ⟨σ', _, I.thaw r f e J h1, h2⟩
  | cont => obtain ⟨σ', H', J, h1, h2⟩ := z; exact ⟨σ', _, I.thaw r f e J h1, h2⟩
  | ret w => obtain ⟨v, σ', H', J, rv, h1, h2⟩ := z; exact ⟨v, σ', _, I.thaw r f e J h1, rv, h2⟩
end
noncomputable def Itd (a : Addr) (o : Obj) (kvs : List (Key × V)) : It :=
  ⟨fun i H => H a = some (.frz o (.dK kvs)) ∧ i < kvs.length, fun i H x H' => H' = H ∧ ∃ k v, kvs[i]? = some (k, v) ∧ x = kV k, fun i H => H a = some (.frz o (.dK kvs)) ∧ kvs.length ≤ i⟩
theorem is_kV {P : Program} {w : World} {k : Key} {u : Value} (h : (mixKind P w).is k u = true) : RelV (kV k) u := by
  rcases keyIs_shape (show keyIs k u = true from h) with ⟨i, t, rfl, rfl⟩ | ⟨x, t, rfl, rfl⟩
  · exact ⟨t, rfl⟩
  · exact ⟨t, rfl⟩
theorem KV.len {κ : Type} {xs : List (κ × V)} {ys : List (κ × Value)} (r : KV xs ys) : xs.length = ys.length := Paired.length r
theorem KV.get {κ : Type} : ∀ {xs : List (κ × V)} {ys : List (κ × Value)} {i : Nat} {k : κ} {v : V}, KV xs ys → xs[i]? = some (k, v) → ∃ u, ys[i]? = some (k, u) ∧ RelV v u
  | _, _, _, _, _, .nil, e => by simp at e
  | _, (k', u) :: _, 0, k, v, .cons r _, e => by
    simp at e
    subst e
    obtain ⟨r1, r2⟩ := r
    have r1 : k = k' := r1
    subst r1
    exact ⟨u, rfl, r2⟩
  | _, _, i + 1, k, v, .cons _ t, e => by
    obtain ⟨u, h1, h2⟩ := KV.get (i := i) t (by simpa using e)
    exact ⟨u, by simpa using h1, h2⟩
theorem frz_dictAt {X : Cx} {pins : List (Addr × Obj)} {σ : St} {H : Hp} {s : Shared} {a : Addr} {o : Obj} {es : Array DictEntry} {ep : Nat} {kvs : List (Key × V)} (I : Inv X pins σ H s) (h : H a = some (.frz o (.dK kvs))) (hd : o.data = .dict es ep) :
    ∃ vs, KV kvs vs ∧ s.heap.DictAt (mixKind X.prog X.w) a vs ep ∧ (a == sysModules) = false := by
  obtain ⟨e1, z, y, vs, rel, ob, es', ep', e2, c, d, r⟩ := I.hok a _ h
  rw [e1] at e2
  cases e2
  rw [hd] at d
  cases d
  exact ⟨vs, rel, ⟨o, es, e1, c, hd, r⟩, y⟩
theorem turn_dict {P : Program} {w : World} {K : PySem.W.Frag} {tg : Expr} (a it : Addr) (o : Obj) (kvs : List (Key × V)) (es : Array DictEntry) (ep : Nat) (hd : o.data = .dict es ep) : Turn P w K tg (Itd a o kvs) [it] it (fun i h => h.IsKeyIter it a i kvs.length ep) where
  mem := by simp
  obj := fun i h st b hb => by
    have e : b = it := by simpa using hb
    subst e
    obtain ⟨ob, e, c, d⟩ := st
    exact ⟨ob, e, fun v z => by rw [d] at z; cases z⟩
  keep := fun i h h' st k => st.at fun o e => k it (by simp) o e
  item := by
    intro X hP hw hK hc i pins s σ H E I hf st hg
    subst hP hw hK
    obtain ⟨hz, hi⟩ := hg
    obtain ⟨vs, rel, da, _⟩ := frz_dictAt I hz hd
    obtain ⟨⟨k, v⟩, hx⟩ : ∃ p, kvs[i]? = some p := ⟨kvs[i], by simp [hi]⟩
    obtain ⟨u, hu, ru⟩ := rel.get hx
    obtain ⟨f0, f1, f2, f3, f4, f5⟩ := hf it (by simp)
    have st0 := st
    rw [rel.len] at st
    refine wpAny_pyNext_dict_item st da hu fun key h' hkey st' sb => ?_
    have I1 : Inv X pins σ H { s with heap := h' } := I.turned (t' := s.toks) (fun b o hb e => (sb.2 b hb).trans e) f0 f1 f3 f4 f5
    rw [← rel.len] at st'
    obtain ⟨ob, e, c, d⟩ := id st'
    exact ⟨key, rfl, go_of (s := { s with heap := h' }) e c d (by decide) ⟨kV k, H, I1, is_kV hkey, ⟨rfl, k, v, hx, rfl⟩, st', fun b hb => (hf b hb).1⟩⟩
  done := by
    intro X hP hw hK hc i pins s σ H E I hf st hg
    subst hP hw hK
    obtain ⟨hz, hi⟩ := hg
    obtain ⟨vs, rel, da, _⟩ := frz_dictAt I hz hd
    obtain ⟨f0, f1, f2, f3, f4, f5⟩ := hf it (by simp)
    rw [rel.len] at st
    exact wpAny_pyNext_dict_end (I.ok.hd hc) st da (List.getElem?_eq_none (by rw [← rel.len]; exact hi)) fun h' eb => ⟨rfl, I.turned (t' := s.toks) (fun b o hb e => eb b o hb e) f0 f1 f3 f4 f5⟩
  self := fun _ _ _ _ _ st h => wpAny_pyIter_keyiter st h
noncomputable def iDictF (tl : TE) : TI := fun σ H R => tl σ H fun x H1 => ∃ a o kvs, x = .ref a ∧ H1 a = some (.frz o (.dK kvs)) ∧ R (Itd a o kvs) H1
section
variable {X : Cx} {tg : Expr}
theorem pi_dictF {l : Expr} {tl : TE} (hl : PE X l tl) : PI X tg l (iDictF tl) := by
  intro pins s σ H R I h
  refine thn (hl pins s σ H _ I h) fun v s1 ⟨x, H1, I1, r1, q1⟩ => ?_
  obtain ⟨a, o, kvs, e, hz, q⟩ := q1
  subst e
  cases r1
  obtain ⟨e1, _, _, vs, rel, ob, es, ep, e2, c, d, r⟩ := I1.hok a _ hz
  rw [e1] at e2
  cases e2
  obtain ⟨vs, rel, da, hm⟩ := frz_dictAt I1 hz d
  refine wpAny_pyIter_dict hm da ?_
  refine ⟨s1.heap.objs.size, [s1.heap.objs.size], _, _, H1, rfl, I1.kept (t' := s1.toks) fun b o e => Heap.get?_push_of_some _ e, turn_dict a _ o kvs es ep d, ⟨_, Heap.get?_push_size _ rfl, rfl, by rw [rel.len]; rfl⟩, fun b hb => ?_, q⟩
  have e : b = s1.heap.objs.size := by simpa using hb
  subst e
  exact I1.fpOk (Nat.le_refl _) (I1.hok.fresh (Nat.le_refl _))
end
theorem for_dict {a : Addr} {o : Obj} {kvs : List (Key × V)} {g : TG} {tb : TS} {D : Ends} {σ : St} {H : Hp} (Pv : Nat → St → Hp → Prop) (h0 : Pv 0 σ H) (hl : ∀ i σ H, i ≤ kvs.length → Pv i σ H → H a = some (.frz o (.dK kvs)))
    (hs : ∀ i k v σ H, kvs[i]? = some (k, v) → Pv i σ H → g (kV k) σ H fun σ2 H2 => tb { D with nx := Pv (i + 1), ct := Pv (i + 1), bk := D.nx } σ2 H2) (hd : ∀ σ H, Pv kvs.length σ H → D.nx σ H) :
    ∃ W : Nat → Nat → St → Hp → Prop, (∃ m, W 0 m σ H) ∧ ∀ i m σ H, W i m σ H →
      ((Itd a o kvs).stop i H ∧ D.nx σ H) ∨ ((Itd a o kvs).go i H ∧ ∃ N : St → Hp → Prop, (∀ σ' H', N σ' H' → ∃ m', m' < m ∧ W (i + 1) m' σ' H') ∧ ∀ x H', (Itd a o kvs).yld i H x H' → g x σ H' fun σ2 H2 => tb { D with nx := N, ct := N, bk := D.nx } σ2 H2) := by
  refine ⟨fun i m σ H => m = kvs.length - i ∧ i ≤ kvs.length ∧ Pv i σ H, ⟨kvs.length, by simp, Nat.zero_le _, h0⟩, ?_⟩
  rintro i m σ H ⟨rfl, hi, p⟩
  have q := hl i σ H hi p
  by_cases hlt : i < kvs.length
  · refine .inr ⟨⟨q, hlt⟩, Pv (i + 1), fun σ' H' p' => ⟨kvs.length - (i + 1), by omega, rfl, hlt, p'⟩, fun x H' y => ?_⟩
    obtain ⟨e, k, v, hk, ex⟩ := y
    subst e ex
    exact hs i k v σ _ hk p
  · have e : i = kvs.length := by omega
    subst e
    exact .inl ⟨⟨q, Nat.le_refl _⟩, hd σ H p⟩
noncomputable def tDSetd (td ty tx : TE) : TE := fun σ H Q => td σ H fun x H1 => ∃ a, x = .ref a ∧ IsD H1 a ∧ ty σ H1 fun y H2 => tx σ H2 fun z H3 => ∃ kvs k, H3 a = some (.dK kvs) ∧ y = kV k ∧
  (∀ v, valV kvs k = some v → Q v H3) ∧ (valV kvs k = none → kvs.length < sizeLine ∧ Q z (upd H3 a (.dK (putK kvs k z))))
section
variable {X : Cx} {o e f : Expr} {apos cpos : Pos} {td ty tx : TE}
theorem pe_dsetd (ho : PE X o td) (he : PE X e ty) (hf : PE X f tx) (m : M2 X o "setdefault" apos e f cpos) : PE X (.Call (.Attribute o "setdefault" apos) [e, f] [] cpos) (tDSetd td ty tx) := by
  intro pins s σ H Q I h
  refine wpAny_Call_method m.base m.few m.line PySem.F.plainAttrs_dict PySem.F.slot_dict_setdefault PySem.F.type_dict_setdefault (thn (ho pins s σ H _ I h) fun u s1 ⟨x, H1, I1, rx, a, ex, d, q1⟩ => ?_)
  subst ex
  obtain rfl : u = Value.ref a := rx
  obtain ⟨t1, t2, _⟩ := isD_at I1 d
  refine ⟨t1, t2, ?_⟩
  rw [m.trees]
  refine Calls.callWith_builtin rfl (Calls.evalArgs_plain (Calls.spliced_cons (thn (he pins s1 σ H1 _ I1 q1) fun iv s2 ⟨y, H2, I2, ry, q2⟩ =>
    Calls.spliced_cons (thn (hf pins s2 σ H2 _ I2 q2) fun fv s3 ⟨z, H3, I3, rz, kvs, k, ea, ey, q3, q4⟩ => Calls.spliced_nil ?_))))
  subst ey
  obtain ⟨zl, hd, vs, rel, dd⟩ := dk_of I3.hok ea
  refine call_meetsIn PySem.F.slot_dict_setdefault dd.typeIs PySem.F.entry_dict_setdefault (PySem.F.args_dict_setdefault_3 _ _ _) (kt_meets_setdefault (mixKind X.prog X.w) a (kV_is ry) hd fv)
    ⟨vs, dd, by rw [← rel.length]; exact zl, fun v' hv' => ?_, fun hn h' dd' hs => ?_⟩
  · have r := rel.val k
    rw [hv'] at r
    cases l : valV kvs k with
    | none => rw [l] at r; exact r.elim
    | some v => rw [l] at r; exact ⟨v, H3, I3.tok _, r, q3 v l⟩
  · have r := rel.val k
    rw [hn] at r
    cases l : valV kvs k with
    | some v => rw [l] at r; exact r.elim
    | none =>
      obtain ⟨zl', q5⟩ := q4 l
      have he : ∃ q, h'.get? a = some q := let ⟨q, _, _, hq, _⟩ := dd'; ⟨q, hq⟩
      have hl : (putK kvs k z).length ≤ sizeLine := by
        rw [putK_new z l, List.length_append]
        exact zl'
      exact ⟨z, _, d_write I3 (by rw [ea]; exact True.intro) hs he (dk_new hl hd (rel.put k rz) dd'), rz, q5⟩
end
end L2
set_option Elab.async false
set_option linter.all false
namespace Bf
section
variable {κ : Type} [DecidableEq κ]
noncomputable def addNew (w : List κ) : List κ → List κ
  | [] => w
  | k :: ks => addNew (if k ∈ w then w else w ++ [k]) ks
noncomputable def bfs (nx : κ → List κ) (s : κ) : Nat → List κ
  | 0 => [s]
  | n + 1 => match (bfs nx s n)[n]? with
    | some h => addNew (bfs nx s n) (nx h)
    | none => bfs nx s n
inductive Reach (nx : κ → List κ) (s : κ) : κ → Prop
  | start : Reach nx s s
  | step {a b : κ} : Reach nx s a → b ∈ nx a → Reach nx s b
theorem addNew_pre : ∀ (ks w : List κ), w <+: addNew w ks
  | [], w => List.prefix_refl w
  | k :: ks, w => by
    unfold addNew
    refine List.IsPrefix.trans ?_ (addNew_pre ks _)
    split
    · exact List.prefix_refl w
    · exact List.prefix_append w [k]
theorem addNew_mem : ∀ (ks w : List κ) (x : κ), x ∈ addNew w ks ↔ x ∈ w ∨ x ∈ ks
  | [], w, x => by simp [addNew]
  | k :: ks, w, x => by
    unfold addNew
    rw [addNew_mem ks]
    split
    · rename_i h
      constructor
      · rintro (q | q)
        · exact .inl q
        · exact .inr (List.mem_cons_of_mem _ q)
      · rintro (q | q)
        · exact .inl q
        · rcases List.mem_cons.mp q with e | q
          · subst e; exact .inl h
          · exact .inr q
    · rw [List.mem_append, List.mem_singleton, List.mem_cons, or_assoc]
theorem addNew_nodup : ∀ (ks w : List κ), w.Nodup → (addNew w ks).Nodup
  | [], w, h => h
  | k :: ks, w, h => by
    unfold addNew
    refine addNew_nodup ks _ ?_
    split
    · exact h
    · rename_i hk
      rw [List.nodup_append]
      refine ⟨h, by simp, fun a ha b hb => ?_⟩
      rw [List.mem_singleton] at hb
      subst hb
      intro e
      subst e
      exact hk ha
theorem addNew_append (w ks ls : List κ) : addNew w (ks ++ ls) = addNew (addNew w ks) ls := by
  induction ks generalizing w with
  | nil => rfl
  | cons k ks ih => exact ih _
theorem addNew_old {w : List κ} {k : κ} (h : k ∈ w) : addNew w [k] = w := by simp [addNew, h]
theorem addNew_one {w : List κ} {k : κ} (h : k ∉ w) : addNew w [k] = w ++ [k] := by simp [addNew, h]
variable {nx : κ → List κ} {s : κ}
theorem bfs_succ {n : Nat} {h : κ} (e : (bfs nx s n)[n]? = some h) : bfs nx s (n + 1) = addNew (bfs nx s n) (nx h) := by
  show (match (bfs nx s n)[n]? with | some h => addNew (bfs nx s n) (nx h) | none => bfs nx s n) = _
  rw [e]
theorem bfs_stay {n : Nat} (e : (bfs nx s n)[n]? = none) : bfs nx s (n + 1) = bfs nx s n := by
  show (match (bfs nx s n)[n]? with | some h => addNew (bfs nx s n) (nx h) | none => bfs nx s n) = _
  rw [e]
theorem bfs_pre1 (n : Nat) : bfs nx s n <+: bfs nx s (n + 1) := by
  cases e : (bfs nx s n)[n]? with
  | none => rw [bfs_stay e]; exact List.prefix_refl _
  | some h => rw [bfs_succ e]; exact addNew_pre _ _
theorem bfs_pre (n : Nat) : ∀ m, bfs nx s n <+: bfs nx s (n + m)
  | 0 => List.prefix_refl _
  | m + 1 => (bfs_pre n m).trans (bfs_pre1 (n + m))
theorem pre_get {xs ys : List κ} (h : xs <+: ys) {i : Nat} {x : κ} (e : xs[i]? = some x) : ys[i]? = some x := by
  obtain ⟨t, rfl⟩ := h
  rw [List.getElem?_append_left (List.getElem?_eq_some_iff.mp e).1]
  exact e
theorem pre_get' {xs ys : List κ} (h : xs <+: ys) {i : Nat} {x : κ} (hi : i < xs.length) (e : ys[i]? = some x) : xs[i]? = some x := by
  obtain ⟨t, rfl⟩ := h
  rw [List.getElem?_append_left hi] at e
  exact e
theorem bfs_nodup : ∀ n, (bfs nx s n).Nodup
  | 0 => by simp [bfs]
  | n + 1 => by
    cases e : (bfs nx s n)[n]? with
    | none => rw [bfs_stay e]; exact bfs_nodup n
    | some h => rw [bfs_succ e]; exact addNew_nodup _ _ (bfs_nodup n)
theorem bfs_reach : ∀ n x, x ∈ bfs nx s n → Reach nx s x
  | 0, x, h => by
    have : x = s := by simpa [bfs] using h
    subst this
    exact .start
  | n + 1, x, hx => by
    cases e : (bfs nx s n)[n]? with
    | none => rw [bfs_stay e] at hx; exact bfs_reach n x hx
    | some h =>
      rw [bfs_succ e] at hx
      rcases (addNew_mem _ _ _).mp hx with q | q
      · exact bfs_reach n x q
      · exact .step (bfs_reach n h (List.mem_of_getElem? e)) q
theorem bfs_zero (n : Nat) : (bfs nx s n)[0]? = some s := pre_get (by have := bfs_pre (nx := nx) (s := s) 0 n; rwa [Nat.zero_add] at this) rfl
theorem bfs_start (n : Nat) : s ∈ bfs nx s n := List.mem_of_getElem? (bfs_zero n)
theorem bfs_closed {n i : Nat} {h : κ} (hi : i < n) (e : (bfs nx s n)[i]? = some h) : ∀ k ∈ nx h, k ∈ bfs nx s n := by
  have h1 : bfs nx s i <+: bfs nx s n := by
    have := bfs_pre (nx := nx) (s := s) i (n - i)
    rwa [Nat.add_sub_cancel' (Nat.le_of_lt hi)] at this
  have h2 : bfs nx s (i + 1) <+: bfs nx s n := by
    have := bfs_pre (nx := nx) (s := s) (i + 1) (n - (i + 1))
    rwa [Nat.add_sub_cancel' hi] at this
  intro k hk
  cases q : (bfs nx s i)[i]? with
  | some h' =>
    have : some h' = some h := (pre_get h1 q).symm.trans e
    cases this
    refine h2.subset ?_
    rw [bfs_succ q]
    exact (addNew_mem _ _ _).mpr (.inr hk)
  | none =>
    -- then nothing is added any more
    exfalso
    have stay : ∀ m, bfs nx s (i + m) = bfs nx s i := by
      intro m
      induction m with
      | zero => rfl
      | succ m ih =>
        have : (bfs nx s (i + m))[i + m]? = none := by
          rw [ih]
          exact List.getElem?_eq_none (Nat.le_trans (List.getElem?_eq_none_iff.mp q) (Nat.le_add_right i m))
        exact (bfs_stay this).trans ih
    have := stay (n - i)
    rw [Nat.add_sub_cancel' (Nat.le_of_lt hi)] at this
    rw [this, q] at e
    cases e
theorem bfs_all {n : Nat} (hn : (bfs nx s n).length ≤ n) (x : κ) : x ∈ bfs nx s n ↔ Reach nx s x := by
  refine ⟨bfs_reach n x, fun r => ?_⟩
  induction r with
  | start => exact bfs_start n
  | step r hb ih =>
    obtain ⟨i, hi, e⟩ := List.mem_iff_getElem.mp ih
    exact bfs_closed (i := i) (by omega) (by rw [List.getElem?_eq_getElem hi, e]) _ hb
theorem addNew_new : ∀ (ks w : List κ) (j : Nat) (x : κ), w.length ≤ j → (addNew w ks)[j]? = some x → x ∈ ks
  | [], w, j, x, hj, e => by
    have : w[j]? = some x := e
    rw [List.getElem?_eq_none hj] at this
    cases this
  | k :: ks, w, j, x, hj, e => by
    unfold addNew at e
    split at e
    · exact List.mem_cons_of_mem _ (addNew_new ks w j x hj e)
    · by_cases c : j = w.length
      · subst c
        have := pre_get' (addNew_pre ks (w ++ [k])) (i := w.length) (by simp) e
        rw [List.getElem?_append_right (Nat.le_refl _)] at this
        simp at this
        exact this ▸ List.mem_cons_self
      · exact List.mem_cons_of_mem _ (addNew_new ks (w ++ [k]) j x (by simp; omega) e)
theorem bfs_pred : ∀ (n j : Nat) (x : κ), 0 < j → (bfs nx s n)[j]? = some x → ∃ i h, i < j ∧ i < n ∧ (bfs nx s n)[i]? = some h ∧ x ∈ nx h
  | 0, j, x, hj, e => by
    have : ([s] : List κ)[j]? = some x := e
    rw [List.getElem?_eq_none (by simp; omega)] at this
    cases this
  | n + 1, j, x, hj, e => by
    cases q : (bfs nx s n)[n]? with
    | none =>
      rw [bfs_stay q] at e ⊢
      obtain ⟨i, h, h1, h2, h3, h4⟩ := bfs_pred n j x hj e
      exact ⟨i, h, h1, by omega, h3, h4⟩
    | some h =>
      rw [bfs_succ q] at e ⊢
      by_cases c : j < (bfs nx s n).length
      · have e' := pre_get' (addNew_pre (nx h) (bfs nx s n)) c e
        obtain ⟨i, h', h1, h2, h3, h4⟩ := bfs_pred n j x hj e'
        exact ⟨i, h', h1, by omega, pre_get (addNew_pre _ _) h3, h4⟩
      · have hn : n < (bfs nx s n).length := (List.getElem?_eq_some_iff.mp q).1
        exact ⟨n, h, by omega, by omega, pre_get (addNew_pre _ _) q, addNew_new _ _ j x (by omega) e⟩
theorem pigeon : ∀ (xs ys : List κ), xs.Nodup → (∀ x ∈ xs, x ∈ ys) → xs.length ≤ ys.length
  | [], _, _, _ => Nat.zero_le _
  | x :: xs, ys, nd, h => by
    rw [List.nodup_cons] at nd
    have hx : x ∈ ys := h x List.mem_cons_self
    have := pigeon xs (ys.erase x) nd.2 fun y hy => (List.mem_erase_of_ne (fun z : y = x => nd.1 (by rw [← z]; exact hy))).mpr (h y (List.mem_cons_of_mem _ hy))
    rw [List.length_erase_of_mem hx] at this
    have : 0 < ys.length := List.length_pos_of_mem hx
    simp only [List.length_cons]
    omega
end
end Bf
set_option Elab.async false
set_option linter.all false
set_option maxRecDepth 100000
set_option maxHeartbeats 4000000
namespace L2
open PySem PySem.Spec PyProof.Rows
section
variable {X : Cx}
noncomputable def rIndex : V → List V → Hp → VK → Prop := fun x vs H Q => ∃ (l : Addr) (xs : List Str) (y : Str) (j : Nat), x = .ref l ∧ vs = [.str y] ∧ H l = some (.lst (xs.map V.str)) ∧ xs[j]? = some y ∧ (∀ m, m < j → xs[m]? ≠ some y) ∧ xs.length ≤ 100000 ∧ Q (.int j) H
theorem mt_index : MtR X "list.index" rIndex := by
  intro pins s σ H x vs v us Q I rx rv h
  obtain ⟨l, xs, y, j, rfl, rfl, hH, hj, hno, hz, q⟩ := h
  cases rx
  obtain ⟨u, rfl, t, rfl⟩ := vals1 rv
  obtain ⟨z, its, n, r, hl, e⟩ := I.lstM hH
  have sa := strsAre_of r
  have hlen : its.length = xs.length := by rw [← hl, List.length_map]
  have hjl : j < xs.length := (List.getElem?_eq_some_iff.mp hj).1
  have at' : ∀ m (hm : m < its.toArray.size), isStrOf y its.toArray[m] = (xs[m]'(by rw [List.size_toArray] at hm; omega) == y) := fun m hm => by
    rw [List.size_toArray] at hm
    obtain ⟨u, hu, ru⟩ := r.get (i := m) (show (xs.map V.str)[m]? = some (.str (xs[m]'(by omega))) from by rw [List.getElem?_map, List.getElem?_eq_getElem (by omega)]; rfl)
    obtain ⟨tu, eu⟩ := ru
    subst eu
    have e2 : its.toArray[m] = .str (xs[m]'(by omega)) tu := by
      have := (List.getElem?_eq_some_iff.mp hu).2
      simpa using this
    rw [e2]
    rfl
  refine call_meets F.slot_list_index ⟨_, e, rfl⟩ F.entry_list_index (F.args_list_index_2 _ _) (MeetsSeq.list_index l its.toArray n (.str y t) (isStrOf y) (fun v hv => eq_isStrOf y t sa v (by simpa using hv)) j (by rw [List.size_toArray]; omega) (by omega) ?_ (fun m hm hmj => ?_)) ⟨e, ?_⟩
  · rw [at' j (by rw [List.size_toArray]; omega)]
    have := (List.getElem?_eq_some_iff.mp hj).2
    rw [this]
    simp
  · rw [at' m hm]
    rw [List.size_toArray] at hm
    have h1 := hno m hmj
    rw [List.getElem?_eq_getElem (by omega)] at h1
    simpa using h1
  · exact ⟨.int j, H, I.tok _, ⟨_, rfl⟩, q⟩
end
end L2
set_option Elab.async false
set_option linter.all false
set_option maxRecDepth 100000
set_option maxHeartbeats 4000000
namespace L2
open PySem PySem.Spec PyProof.Rows
section
variable {X : Cx}
theorem pe_bmK {K : PySem.W.Frag} {o e : Expr} {es : List Expr} {to : TE} {t : TA} {name : Str} {apos cpos : Pos} {T id : String} {r : V → List V → Hp → VK → Prop} (hK : X.K = K) (pa : PlainAttrs T) (slot : Slot T name id) (hty : typeOf (.builtin id) = pure (.type "method_descriptor")) (hm : MtR X id r) (ho : PE X o to) (ha : PA X (e :: es) t)
    (hbase : attributeBase o name X.env (eval o X.env) = eval o X.env := by rfl)
    (hfew : ((backTo cpos (starEach (e :: es) X.env)).all (fun x => !x.1) && (backToKw cpos (keywordEach [] X.env)).all (fun x => x.1.isSome)
      && decide ((e :: es).length + ([] : List Keyword).length + (if ([] : List Keyword).isEmpty then 0 else 1) < 30)) = true := by rfl)
    (hline : (apos.endLine == cpos.line) = true := by rfl) (hs : starEach (e :: es) X.env = (false, eval e X.env) :: starEach es X.env := by rfl) (hplain : (backTo cpos (starEach es X.env)).any (·.1) = false := by rfl) :
    PE X (.Call (.Attribute o name apos) (e :: es) [] cpos) (tBM K T r to t) := by
  subst hK
  exact pe_bm pa slot hty hm ho ha hbase hfew hline hs hplain
end
end L2
set_option Elab.async false
set_option linter.all false
set_option maxRecDepth 100000
set_option maxHeartbeats 4000000
namespace L2
open PySem PySem.Spec PyProof.Rows
section
variable {X : Cx}
noncomputable def rIxTurn (T : Addr) : R2 := fun x y H Q => x = .ref T ∧ ((y = .str "0" ∧ Q (.str "1") H) ∨ (y = .str "1" ∧ Q (.str "0") H))
theorem ix_turn {T : Addr} (hT : tabAt X.K T [("0", .flat (.str "1")), ("1", .flat (.str "0"))]) : IxR X (rIxTurn T) := by
  intro value slice pins s σ H x y v u Q I rx ry h hs
  obtain ⟨e1, h⟩ := h
  subst e1
  cases rx
  have here : KTD.Here X.base s.heap T [("0", .flat (.str "1")), ("1", .flat (.str "0"))] := ⟨KTD.text_of_look (get := fun a => X.K.lookup a) (fun a o e => I.mod.kin a o e) hT, I.bk⟩
  rcases h with ⟨e, q⟩ | ⟨e, q⟩
  · subst e
    obtain ⟨t, e⟩ := ry
    subst e
    refine KTD.item_textA here (by rfl) (by decide +kernel) ?_ hs
    have e : decide (("0" : Str) = "0") = true := by decide +kernel
    simp only [KTD.EachL, e, if_true]
    exact fun t => ⟨.str "1", H, I.tok _, ⟨_, rfl⟩, q⟩
  · subst e
    obtain ⟨t, e⟩ := ry
    subst e
    refine KTD.item_textA here (by rfl) (by decide +kernel) ?_ hs
    have e : decide (("1" : Str) = "0") = false := by decide +kernel
    simp only [KTD.EachL, e, Bool.false_eq_true, if_false]
    exact fun _ t => ⟨.str "0", H, I.tok _, ⟨_, rfl⟩, q⟩
end
end L2
set_option Elab.async false
set_option linter.all false
set_option maxRecDepth 100000
set_option maxHeartbeats 4000000
namespace L2
open PySem PySem.Spec PyProof.Rows
section
variable {X : Cx} {scope : Scope} {tgs : List Str} {cap : List (Str × Nat)}
theorem ps_lc {j : Nat} {x : Str} {pos' spos : Pos} {elt tg iter : Expr} {ifs : List Expr} {pos : Pos} {wi : TI} {g : TG} {tt : TT} {te : TE} (hN : X.N.Nodup) (hj : X.N[j]? = some x) (hx : Loc X.env.scope x) (hc : X.calm = true) (B : BlockOk X scope tgs cap) (hi : PI X tg iter wi)
    (hg : ∀ C s H fp, PG (X.block (tgs ++ cap.map (·.1)) scope C s H fp) tg g) (ht : ∀ C s H fp, PIfs (X.block (tgs ++ cap.map (·.1)) scope C s H fp) ifs tt) (he : ∀ C s H fp, PE (X.block (tgs ++ cap.map (·.1)) scope C s H fp) elt te)
    (hs : ∀ x, foldedSetIterable iter X.env x = pure x := by intro _; rfl) (hsw : swapsWith (.ListComp elt [⟨tg, iter, ifs, 0⟩] scope pos) (some (.Name x pos')) spos.line X.env = pure true := by rfl)
    (hf : X.fn x = true ∨ X.env.scope.names.lookup x = some .local := by first | exact .inl rfl | exact .inr rfl | assumption) : PS X (.Assign [.Name x pos'] (.ListComp elt [⟨tg, iter, ifs, 0⟩] scope pos) spos) (tAsg (tComp wi g tt te (blockSt tgs cap)) (gName j)) := by
  intro pins s σ H D I h
  rw [exec_Assign_Name_used _ _ _ _ hsw]
  refine wpAny_bind (wpAny_standAt (wpAny_bind ?_))
  show wpAny _ _ (comprehension _ _ _ _ _ _ _ _ >>= _) _ _ _
  refine wpAny_bind (thn (Q := fun _ s' => SP X pins D .next s') ?_ fun _ s' q => wpAny_pure (wpAny_pure q))
  refine wpAny_comprehension_free (use := some (assign (.Name x pos') X.env)) rfl hs (closure_eq (B.cellAt I.ok)) B.kind B.locs (thn (hi pins s σ H _ I h) fun v s1 h1 => thn h1 fun itv s2 h2 => ?_)
  obtain ⟨it, fp, tn, J, H2, e, I2, T, st2, f2, q⟩ := h2
  subst e
  have lt2 : ∀ b ∈ fp, b < s2.heap.objs.size := fun b hb => let ⟨o, e, _⟩ := T.obj _ _ st2 b hb; Heap.lt_size e
  have hD : H2 s2.heap.objs.size = none := I2.hok.fresh (Nat.le_refl _)
  obtain ⟨W, ⟨m0, w0⟩, turn⟩ := q s2.heap.objs.size hD
  refine wpAny_newObj_type ?_
  have I3 : Inv X pins σ (upd H2 s2.heap.objs.size (.lst [])) { s2 with heap := s2.heap.push { cls := .type "list", dict := none, data := .seq ([] : List Value).toArray } } := I2.lnew (t' := s2.toks) (ys := []) (its := []) .nil (Nat.zero_le _)
  have st3 : tn 0 (s2.heap.push { cls := .type "list", dict := none, data := .seq ([] : List Value).toArray }) := T.keep _ _ _ st2 fun b _ o e => Heap.get?_push_of_some _ e
  have nD : ∀ b ∈ fp, b ≠ s2.heap.objs.size := fun b hb => Nat.ne_of_lt (lt2 b hb)
  have f3 : ∀ b ∈ fp, FpOk X pins (upd H2 s2.heap.objs.size (.lst [])) b := fun b hb => ⟨by rw [upd_ne (nD b hb)]; exact (f2 b hb).1, (f2 b hb).2⟩
  generalize hs3 : ({ s2 with heap := s2.heap.push { cls := .type "list", dict := none, data := .seq ([] : List Value).toArray } } : Shared) = s3 at I3 st3 ⊢
  have st3' : tn 0 s3.heap := by rw [← hs3]; exact st3
  have lt3 : ∀ b ∈ fp, b < s3.heap.objs.size := fun b hb => let ⟨o, e, _⟩ := T.obj _ _ st3' b hb; Heap.lt_size e
  generalize hH3 : upd H2 s2.heap.objs.size (.lst []) = H3 at I3 f3 w0
  generalize s2.heap.objs.size = DD at *
  refine wpAny_newFunctionEnv B.noc (by intro y hy; simp at hy) (fun h1 hns hsb => ?_) B.kind
  have old : ∀ b o, s3.heap.get? b = some o → h1.get? b = some o := fun b o e => hsb.extBut b o (Nat.ne_of_lt (Heap.lt_size e)) (Heap.get?_push_of_some _ e)
  have I4 := Inv.enter (tk := s3.toks + ([] : List (Str × Value)).length) (h1 := h1) B I3 f3 lt3 hns old
  have st4 : tn 0 h1 := T.keep _ _ _ st3' fun b _ o e => old b o e
  have fpB : ∀ {H' : Hp}, (∀ b ∈ fp, H' b = none) → ∀ b ∈ fp, FpOk (X.block (tgs ++ cap.map (·.1)) scope s3.heap.objs.size s3 H3 fp) [] H' b := fun {H'} hn b hb =>
    ⟨hn b hb, Nat.ne_of_lt (lt3 b hb), I4.ok.exfs b hb, .inl hb, fun x c e => (I4.ok.exf b hb).2 x c e, fun p hp => absurd (show p ∈ ([] : List (Addr × Obj)) from hp) (by simp)⟩
  have loop : codeAny (model X.prog X.w) X.A (.compLoop (.ListComp elt [⟨tg, iter, ifs, 0⟩] scope pos) 0 (.ref it) (.ref DD) (compEnvC scope (clsOf X.env scope.names []) s3.heap.objs.size X.env))
      (compPost (model X.prog X.w) X.A X.xe (some (assign (.Name x pos') X.env)) (fun _ s' => SP X pins D .next s') (.ref DD) s3.heap.objs.size) { s3 with heap := h1, toks := s3.toks + ([] : List (Str × Value)).length } := by
    refine compLoop_any (fun n s' => ∃ i H' ys, Inv (X.block (tgs ++ cap.map (·.1)) scope s3.heap.objs.size s3 H3 fp) [] (blockSt tgs cap σ) H' s' ∧ tn i s'.heap ∧ (∀ b ∈ fp, H' b = none) ∧ W i n H' ys) ?_ m0 ⟨0, H3, [], I4, st4, fun b hb => (f3 b hb).1, w0⟩
    rintro n s5 ⟨i, H5, ys, I5, st5, fr5, w5⟩
    obtain ⟨hl, ht5⟩ := turn i n H5 ys w5
    rcases ht5 with ⟨stop, qd⟩ | ⟨go, step⟩
    · refine thn (T.done (X.block (tgs ++ cap.map (·.1)) scope s3.heap.objs.size s3 H3 fp) rfl rfl rfl hc i [] s5 _ H5 _ I5 (fpB fr5) st5 stop) fun r s6 ⟨hr, I6⟩ => ?_
      subst hr
      obtain ⟨m6, n6, _⟩ := I6.loc
      have IO : Inv X pins σ H5 s6 := Inv.leave (h2 := s6.heap) I3 f3 I6 ⟨rfl, fun _ _ => rfl⟩
      have fC : FpOk X pins H5 s3.heap.objs.size := ⟨I6.free, (I3.fpOk (Nat.le_refl _) (I3.hok.fresh (Nat.le_refl _))).2⟩
      obtain ⟨f0, f1, f2', f3', f4, f5⟩ := fC
      refine wpAny_assign_Name (store_ok2 IO hN hj hx (show RelV (.ref DD) (.ref DD) from rfl) (fun s7 I7 ⟨a, sb, ha⟩ => ?_) hf)
      have na : s3.heap.objs.size ≠ a := by
        rcases ha with z | z
        · rw [z]; exact f1
        · exact fun y => f4 x a z y.symm
      obtain ⟨o6, es6, ep6, ho6, r6⟩ := n6
      refine ⟨m6, ⟨o6, es6, ep6, (sb.2 _ na).trans ho6, r6⟩, fun h' hs' => ⟨_, H5, I7.turned (t' := s7.toks) (fun b o hb q => (hs'.2 b hb).trans q) f0 f1 f3' f4 f5, qd⟩⟩
    · refine thn (T.item (X.block (tgs ++ cap.map (·.1)) scope s3.heap.objs.size s3 H3 fp) rfl rfl rfl hc i [] s5 _ H5 _ I5 (fpB fr5) st5 go) fun r s6 ⟨u, hr, h6⟩ => ?_
      subst hr
      refine thn h6 fun _ s7 ⟨x, H7, I7, r7, y7, st7, fr7⟩ => ?_
      have I7' := I7.pinned (fpB fr7) (T.obj _ _ st7)
      have again : ∀ {σ8 : St} {H8 : Hp} {s8 : Shared} {ys8 : List V}, Inv (X.block (tgs ++ cap.map (·.1)) scope s3.heap.objs.size s3 H3 fp) ([] ++ pinsAt fp s7.heap) σ8 H8 s8 → wk (blockSt tgs cap σ) σ8 → (∃ m', m' < n ∧ W (i + 1) m' H8 ys8) →
          ∃ m, m < n ∧ ∃ i H' ys, Inv (X.block (tgs ++ cap.map (·.1)) scope s3.heap.objs.size s3 H3 fp) [] (blockSt tgs cap σ) H' s8 ∧ tn i s8.heap ∧ (∀ b ∈ fp, H' b = none) ∧ W i m H' ys := fun {σ8 H8 s8 ys8} I8 k8 ⟨m', hm, w8⟩ => by
        refine ⟨m', hm, i + 1, H8, ys8, I8.unpinned.weak (wk_len k8) (wk_get k8), T.keep _ _ _ st7 fun b hb o e => (I8.pin (b, o) (List.mem_append_right _ (List.mem_append_right _ (mem_pinsAt hb e)))).1, fun b hb => ?_, w8⟩
        obtain ⟨o, e, d⟩ := T.obj _ _ st7 b hb
        exact (I8.pin (b, o) (List.mem_append_right _ (List.mem_append_right _ (mem_pinsAt hb e)))).2.1
      refine thn (hg _ _ _ _ _ s7 _ H7 x u _ I7' r7 (step x H7 y7)) fun _ s8 ⟨σ8, H8, I8, k8, q8⟩ => ?_
      refine thn (ht _ _ _ _ _ s8 σ8 H8 _ I8 q8) fun ok s9 ⟨H9, I9, q9⟩ => ?_
      cases ok with
      | false =>
        rw [if_neg Bool.false_ne_true] at q9 ⊢
        exact again I9 k8 q9
      | true =>
        rw [if_pos rfl] at q9 ⊢
        refine thn (he _ _ _ _ _ s9 σ8 H9 _ I9 q9) fun y sA ⟨yv, HA, IA, rA, hA, zA, qA⟩ => ?_
        exact thn (mt_append _ sA σ8 HA (.ref DD) [yv] (.ref DD) [y] (fun v H' => v = .non ∧ ∃ m', m' < n ∧ W (i + 1) m' H' (ys ++ [yv])) IA rfl (.cons rA .nil) ⟨DD, ys, yv, rfl, rfl, hA, zA, rfl, qA⟩) fun _ sB ⟨_, HB, IB, _, _, qB⟩ => again IB k8 qB
  exact codeAny_compStart_list loop (T.self _ 0 _ _ _ st4 loop)
end
end L2
set_option Elab.async false
set_option linter.all false
set_option maxRecDepth 100000
set_option maxHeartbeats 4000000
namespace L2
open PySem PySem.Spec PyProof.Rows
theorem cf_app : ∀ (ns : List (Str × NameKind)) (n : Nat) (acc : List (Str × Addr)), cellsFrom n ns acc = cellsFrom n ns [] ++ acc
  | [], _, _ => rfl
  | (x, k) :: r, n, acc => by
    unfold cellsFrom
    split
    · rw [cf_app r (n + 1) ((x, n) :: acc), cf_app r (n + 1) [(x, n)], List.append_assoc]; rfl
    · exact cf_app r n acc
theorem cf_mem : ∀ (ns : List (Str × NameKind)) (n : Nat) (acc : List (Str × Addr)) (x : Str) (c : Addr), (x, c) ∈ cellsFrom n ns acc → (x, c) ∈ acc ∨ (x, NameKind.cell) ∈ ns
  | [], _, _, _, _, h => .inl h
  | (y, k) :: r, n, acc, x, c, h => by
    unfold cellsFrom at h
    split at h
    · rename_i hk
      rcases cf_mem r _ _ x c h with h | h
      · rcases List.mem_cons.mp h with e | h
        · cases e
          have : k = .cell := by simpa using hk
          subst this
          exact .inr List.mem_cons_self
        · exact .inl h
      · exact .inr (List.mem_cons_of_mem _ h)
    · rcases cf_mem r _ _ x c h with h | h
      · exact .inl h
      · exact .inr (List.mem_cons_of_mem _ h)
theorem lookup_app {α β : Type} [BEq α] {l m : List (α × β)} {x : α} : (l ++ m).lookup x = (l.lookup x).or (m.lookup x) := by
  rw [List.lookup_append]
theorem wpAny_newFunctionEnvB {M : Model} {A : Around} {E : Value → Shared → Prop} {s : Shared} {scope : Scope} {globals : Addr} {closure : List (Str × Addr)} {qual : Str} {func : Option Addr} {code : Value} {outer : Env} {builtins : Addr} {Q : Env → Shared → Prop}
    (hk : scope.kind = .function)
    (hQ : ∀ h', h'.Ns s.heap.objs.size (fun _ => none) → (∀ b o, s.heap.get? b = some o → h'.get? b = some o) → CellsOk h' (s.heap.objs.size + 1) (cellsFrom (s.heap.objs.size + 1) scope.names []) →
      Q (newEnv scope s.heap.objs.size globals (cellsFrom (s.heap.objs.size + 1) scope.names closure) qual func code (some outer) builtins) { s with heap := h' }) :
    wpAny M A (newFunctionEnv scope globals closure [] qual func code (some outer) builtins) Q E s := by
  simp only [newFunctionEnv, Option.isSome_some, if_true]
  refine wpAny_bind (wpAny_alloc ?_)
  refine wpAny_bind (wpAny_layCells _ (fun name kind cells => by cases hkc : kind == NameKind.cell <;> simp [hkc]) _ _ _ _ ?_)
  have ok := cellsFrom_ok scope.names (s.heap.push { cls := .type "dict", data := .dict #[] }) (s.heap.objs.size + 1) [] ⟨fun _ _ hm => (nomatch hm), List.Pairwise.nil⟩ (by rw [Heap.size_push]; exact Nat.le_refl _)
  rw [Heap.size_push] at ok
  rw [show ({ s with heap := s.heap.push { cls := .type "dict", data := .dict #[] } } : Shared).heap.objs.size = s.heap.objs.size + 1 from Heap.size_push ..]
  rw [List.forIn_nil]
  refine wpAny_bind (wpAny_pure (wpAny_pure ?_))
  exact hQ _ ((Heap.Ns.new s.heap (.type "dict")).keeps (pushCells_keeps _ _)) (fun b o e => pushCells_keeps _ _ b o (Heap.get?_push_of_some _ e)) ok
structure BlockC (X : Cx) (scope : Scope) (tgs : List Str) (cap : List (Str × Nat)) : Prop where
  kind : scope.kind = .function
  apart : (scope.names.map (·.1)).Nodup
  free : (scope.names.all fun y => !(y.2 == NameKind.free) || (X.env.scope.names.lookup y.1 == some .cell) || (X.env.scope.names.lookup y.1 == some .free)) = true
  caps : (cap.all fun c => decide (X.N[c.2]? = some c.1) && (scope.names.lookup c.1 == some .free) && (decide (X.env.scope.names.lookup c.1 = some .cell) || decide (X.env.scope.names.lookup c.1 = some .free))) = true
noncomputable def Cx.blockC (X : Cx) (N : List Str) (scope : Scope) (C : Addr) (s : Shared) (H : Hp) (fp : List Addr) : Cx :=
  { X with N := N, s₀ := s, H₀ := H, env := compEnvC scope (cellsFrom (C + 1) scope.names (clsOf X.env scope.names [])) C X.env, outer := X.stack, ex := fp, fn := fun x => scope.names.lookup x == some NameKind.cell, pn := [], xe := fun _ _ => False }
section
variable {X : Cx} {scope : Scope} {tgs : List Str} {cap : List (Str × Nat)}
theorem BlockC.cellAt (B : BlockC X scope tgs cap) (ok : X.Ok) : ∀ y ∈ scope.names, y.2 = .free → ∃ c, X.env.cells.lookup y.1 = some c := fun y hy hk => by
  have q := List.all_eq_true.mp B.free y hy
  rw [hk] at q
  refine ok.has y.1 ?_
  simp only [beq_self_eq_true, Bool.not_true, Bool.false_or, Bool.or_eq_true, beq_iff_eq] at q
  exact q
theorem lookup_nodup {α β : Type} [BEq α] [LawfulBEq α] : ∀ {l : List (α × β)} {x : α} {y : β}, (l.map (·.1)).Nodup → (x, y) ∈ l → l.lookup x = some y
  | [], _, _, _, h => nomatch h
  | (a, b) :: l, x, y, nd, h => by
    rw [List.map_cons, List.nodup_cons] at nd
    rcases List.mem_cons.mp h with e | h
    · cases e; rw [List.lookup_cons]; simp
    · have : x ≠ a := fun z => nd.1 (by rw [← z]; exact List.mem_map.mpr ⟨_, h, rfl⟩)
      rw [List.lookup_cons, beq_eq_false_iff_ne.mpr this]
      exact lookup_nodup nd.2 h
theorem BlockC.locs (B : BlockC X scope tgs cap) : ∀ y ∈ scope.names, y.2 = .local → scope.names.lookup y.1 = some .local := fun y hy hk => by
  have : (y.1, NameKind.local) ∈ scope.names := by rw [← hk]; exact hy
  exact lookup_nodup B.apart this
theorem Inv.enterC {pins : List (Addr × Obj)} {σ : St} {H : Hp} {s : Shared} {h1 : Heap} {tk : Nat} {fp : List Addr} (B : BlockC X scope tgs cap) (I : Inv X pins σ H s) (hfp : ∀ b ∈ fp, FpOk X pins H b) (hlt : ∀ b ∈ fp, b < s.heap.objs.size)
    (hns : h1.Ns s.heap.objs.size (fun _ => none)) (old : ∀ b o, s.heap.get? b = some o → h1.get? b = some o) (cok : CellsOk h1 (s.heap.objs.size + 1) (cellsFrom (s.heap.objs.size + 1) scope.names [])) :
    Inv (X.blockC (tgs ++ cap.map (·.1)) scope s.heap.objs.size s H fp) [] (blockSt tgs cap σ) H { s with heap := h1, toks := tk } := by
  have clsIn : ∀ x c, (clsOf X.env scope.names []).lookup x = some c → X.env.cells.lookup x = some c := fun x c e => cls_look e (B.cellAt I.ok)
  have split : ∀ x c, (cellsFrom (s.heap.objs.size + 1) scope.names (clsOf X.env scope.names [])).lookup x = some c → (x, c) ∈ cellsFrom (s.heap.objs.size + 1) scope.names [] ∨ X.env.cells.lookup x = some c := fun x c e => by
    rw [cf_app, lookup_app] at e
    cases h : (cellsFrom (s.heap.objs.size + 1) scope.names []).lookup x with
    | none => rw [h] at e; exact .inr (clsIn x c e)
    | some d => rw [h] at e; cases e; exact .inl (PySem.mem_of_lookup h)
  have oldc : ∀ x c, X.env.cells.lookup x = some c → c < s.heap.objs.size := fun x c e => by
    obtain ⟨v, q⟩ := I.cell x c e
    exact q.lt
  have newc : ∀ x c, (x, c) ∈ cellsFrom (s.heap.objs.size + 1) scope.names [] → s.heap.objs.size < c := fun x c h => (cok.empty x c h).2
  have kindIn : ∀ x, ((relabel scope X.env).names.lookup x = some .cell ∨ (relabel scope X.env).names.lookup x = some .free) → (x, NameKind.free) ∈ scope.names ∨ (x, NameKind.cell) ∈ scope.names := fun x hx => by
    have go : ∀ k, (relabel scope X.env).names.lookup x = some k → (k = .cell ∨ k = .free) → (x, NameKind.free) ∈ scope.names ∨ (x, NameKind.cell) ∈ scope.names := fun k hk hc => by
      obtain ⟨k', e1, e2⟩ := relabel_kind hk
      have m := lookup_mem e1
      rcases e2 with e2 | ⟨e2, _⟩
      · subst e2
        rcases hc with z | z
        · subst z; exact .inr m
        · subst z; exact .inl m
      · subst e2; exact .inl m
    rcases hx with h | h
    · exact go _ h (.inl rfl)
    · exact go _ h (.inr rfl)
  have freeLook : ∀ x d, scope.names.lookup x = some .free → (clsOf X.env scope.names []).lookup x = some d → (cellsFrom (s.heap.objs.size + 1) scope.names (clsOf X.env scope.names [])).lookup x = some d := fun x d hf hd => by
    rw [cf_app, lookup_app]
    cases h : (cellsFrom (s.heap.objs.size + 1) scope.names []).lookup x with
    | none => exact hd
    | some c =>
      exfalso
      rcases cf_mem _ _ _ _ _ (PySem.mem_of_lookup h) with z | z
      · cases z
      · rw [lookup_nodup B.apart z] at hf; cases hf
  refine ⟨⟨I.ok.mod, ?_, I.ok.glob, I.ok.blt, Nat.le_refl _, fun x y c e1 e2 => ?_, fun x hx => ?_, fun x c hf e => ?_, I.ok.hd, I.ok.frames, .inl rfl,
    fun b hb => ⟨Nat.ne_of_lt (hlt b hb), fun x c e => ?_⟩, I.bs, Nat.le_trans I.ok.bsz I.sz, fun b o e hb => ?_, fun b hb hf => ?_, I.stack, I.stkFree⟩,
    rfl, I.bare, Un.kept old, ⟨_, hns, fun i x v h2 h3 h4 => ?_⟩, fun x c e => ?_, ?_, fun x c e => ?_, fun p hp => absurd (show p ∈ ([] : List (Addr × Obj)) from hp) (by simp), I.hok.kept old, ?_⟩
  · exact B.kind
  · rcases split x c e1 with h1 | h1 <;> rcases split y c e2 with h2 | h2
    · exact name_of_addr cok.apart h1 h2
    · exact absurd (Nat.lt_trans (newc _ _ h1) (oldc _ _ h2)) (Nat.lt_irrefl _)
    · exact absurd (Nat.lt_trans (newc _ _ h2) (oldc _ _ h1)) (Nat.lt_irrefl _)
    · exact I.ok.inj x y c h1 h2
  · show ∃ c, (cellsFrom (s.heap.objs.size + 1) scope.names (clsOf X.env scope.names [])).lookup x = some c
    rcases kindIn x hx with h | h
    · obtain ⟨d, e⟩ := cls_has (env := X.env) h
      exact ⟨d, freeLook x d (lookup_nodup B.apart h) e⟩
    · have q := PySem.W.cellsFrom_some (x := x) scope.names (s.heap.objs.size + 1) (clsOf X.env scope.names []) (.inl (lookup_nodup B.apart h))
      exact Option.isSome_iff_exists.mp q
  · have hf : (scope.names.lookup x == some NameKind.cell) = true := hf
    have q := PySem.W.cellsFrom_some (x := x) scope.names (s.heap.objs.size + 1) [] (.inl (by simpa using hf))
    obtain ⟨d, hd⟩ := Option.isSome_iff_exists.mp q
    have e' : (cellsFrom (s.heap.objs.size + 1) scope.names (clsOf X.env scope.names [])).lookup x = some c := e
    rw [cf_app, lookup_app, hd] at e'
    cases e'
    exact Nat.le_of_lt (newc _ _ (PySem.mem_of_lookup hd))
  · rcases split x c e with h | h
    · intro z
      have h1 := newc _ _ h
      have h2 := hlt b hb
      rw [z] at h1
      exact absurd (Nat.lt_trans h1 h2) (Nat.lt_irrefl _)
    · exact (hfp b hb).2.2.2.2.1 x c h
  · -- no object of the base is an iterator of ours
    rcases (hfp b hb).2.2.2.1 with z | z
    · exact I.ok.noex b o e z
    · have q := I.ok.bs b o e
      exact absurd (Nat.lt_of_lt_of_le (Heap.lt_size q.1) z) (Nat.lt_irrefl _)
  · have hf' : b ∈ frs X.stack := hf
    rcases List.mem_cons.mp (I.stkSub b hf') with z | z
    · exact (hfp b hb).2.1 z
    · exact (hfp b hb).2.2.1 z
  · -- a name that is known: one of the captured ones
    have hi : tgs.length ≤ i := by
      by_cases hl : i < tgs.length
      · exfalso
        unfold blockSt at h3
        rw [List.getElem?_append_left (by simpa using hl), List.getElem?_map] at h3
        cases e : tgs[i]? with
        | none => rw [e] at h3; cases h3
        | some z => rw [e] at h3; cases h3
      · omega
    unfold blockSt at h3
    rw [List.getElem?_append_right (by simpa using hi), List.length_map, List.getElem?_map] at h3
    have h2' : (tgs ++ cap.map (·.1))[i]? = some x := h2
    rw [List.getElem?_append_right hi, List.getElem?_map] at h2'
    cases e : cap[i - tgs.length]? with
    | none => rw [e] at h2'; cases h2'
    | some c =>
      rw [e] at h2' h3
      have hx : c.1 = x := by simpa using h2'
      have hv : (σ[c.2]?).join = some v := by simpa using h3
      have hm : c ∈ cap := List.mem_of_getElem? e
      have q := List.all_eq_true.mp B.caps c hm
      simp only [Bool.and_eq_true, decide_eq_true_eq, beq_iff_eq, Bool.or_eq_true] at q
      obtain ⟨⟨q1, q2⟩, q3⟩ := q
      have hσ : σ[c.2]? = some (some v) := by
        cases z : σ[c.2]? with
        | none => rw [z] at hv; cases hv
        | some o =>
          rw [z] at hv
          have : o = some v := by simpa using hv
          rw [this]
      obtain ⟨m, _, hl⟩ := I.loc
      obtain ⟨u, r, l⟩ := hl c.2 c.1 v q1 hσ (by
        rcases q3 with z | z
        · exact .inr (.inl z)
        · exact .inr (.inr z))
      subst hx
      refine ⟨u, r, .inr ⟨relabel_free q2, ?_⟩⟩
      have nl : ¬ X.env.kindOf c.1 = some .local := fun z => by
        rcases q3 with y | y
        · have : X.env.kindOf c.1 = some .cell := y
          rw [this] at z; cases z
        · have : X.env.kindOf c.1 = some .free := y
          rw [this] at z; cases z
      rcases l with ⟨l1, _⟩ | ⟨_, d, l2, l3⟩
      · exact absurd l1 nl
      · obtain ⟨d', e'⟩ := cls_has (env := X.env) (lookup_mem q2)
        have : d = d' := Option.some.inj (l2.symm.trans (clsIn _ _ e'))
        subst this
        obtain ⟨oc, ho, hd⟩ := l3
        exact ⟨d, freeLook _ _ q2 e', oc, old d oc ho, hd⟩
  · rcases split x c e with h | h
    · exact ⟨_, (cok.empty x c h).1⟩
    · obtain ⟨v, oc, ho, hd⟩ := I.cell x c h
      exact ⟨v, oc, old c oc ho, hd⟩
  · exact I.hok.fresh (Nat.le_refl _)
  · rcases split x c e with h | h
    · exact I.hok.fresh (Nat.le_of_lt (newc _ _ h))
    · exact I.freeC x c h
  · unfold blockSt
    show _ = (tgs ++ cap.map (·.1)).length
    simp

theorem Inv.leaveC {pins : List (Addr × Obj)} {σ σ' : St} {H H' : Hp} {s s' : Shared} {h2 : Heap} {fp : List Addr} {N : List Str} (I : Inv X pins σ H s) (hfp : ∀ b ∈ fp, FpOk X pins H b)
    (J : Inv (X.blockC N scope s.heap.objs.size s H fp) [] σ' H' s') (hs : Heap.SameBut s.heap.objs.size s'.heap h2) : Inv X pins σ H' { s' with heap := h2 } := by
  have u : Un (frs X.stack) fp H H' s.heap s'.heap := J.base
  have ne : ∀ b o, s.heap.get? b = some o → b ≠ s.heap.objs.size := fun b o e => Nat.ne_of_lt (Heap.lt_size e)
  have hf : H' s.heap.objs.size = none := J.free
  have k : ∀ b o, b ≠ s.heap.objs.size → s'.heap.get? b = some o → h2.get? b = some o := fun b o hb e => (hs.2 b hb).trans e
  have u2 : Un (frs X.stack) fp H H' s.heap h2 :=
    ⟨fun b o e n h1 h3 => k b o (ne b o e) (u.keep b o e n h1 h3), fun b o e n h1 h3 => let ⟨sl, q⟩ := u.slot b o e n h1 h3; ⟨sl, k b _ (ne b o e) q⟩, u.free, fun b o e h3 => let ⟨o', q⟩ := u.there b o e h3; ⟨o', k b o' (ne b o e) q⟩, u.tups, u.frzs, u.tbls⟩
  have hok : HOk X.prog X.w H' h2 := fun b ob e => (J.hok b ob e).stay (fun c v hc q => k c v (by
    rcases hc with z | z
    · subst z
      intro y
      rw [y, hf] at e; cases e
    · intro y
      rw [y, hf] at z; cases z) q) (fun _ q => q) fun _ _ q => q
  exact Inv.call' I (s' := { s' with heap := h2 }) J.os u2 hok J.bare fun b hb => by
    obtain ⟨f0, f1, f2, f3, f4, f5⟩ := hfp b hb
    exact ⟨f3, f1, f4, f5⟩

theorem ps_lcC {j : Nat} {x : Str} {pos' spos : Pos} {elt tg iter : Expr} {ifs : List Expr} {pos : Pos} {wi : TI} {g : TG} {tt : TT} {te : TE} (hN : X.N.Nodup) (hj : X.N[j]? = some x) (hx : Loc X.env.scope x) (hc : X.calm = true) (B : BlockC X scope tgs cap) (hi : PI X tg iter wi)
    (hg : ∀ C s H fp, PG (X.blockC (tgs ++ cap.map (·.1)) scope C s H fp) tg g) (ht : ∀ C s H fp, PIfs (X.blockC (tgs ++ cap.map (·.1)) scope C s H fp) ifs tt) (he : ∀ C s H fp, PE (X.blockC (tgs ++ cap.map (·.1)) scope C s H fp) elt te)
    (hs : ∀ x, foldedSetIterable iter X.env x = pure x := by intro _; rfl) (hsw : swapsWith (.ListComp elt [⟨tg, iter, ifs, 0⟩] scope pos) (some (.Name x pos')) spos.line X.env = pure true := by rfl)
    (hf : X.fn x = true ∨ X.env.scope.names.lookup x = some .local := by first | exact .inl rfl | exact .inr rfl | assumption) : PS X (.Assign [.Name x pos'] (.ListComp elt [⟨tg, iter, ifs, 0⟩] scope pos) spos) (tAsg (tComp wi g tt te (blockSt tgs cap)) (gName j)) := by
  intro pins s σ H D I h
  rw [exec_Assign_Name_used _ _ _ _ hsw]
  refine wpAny_bind (wpAny_standAt (wpAny_bind ?_))
  show wpAny _ _ (comprehension _ _ _ _ _ _ _ _ >>= _) _ _ _
  refine wpAny_bind (thn (Q := fun _ s' => SP X pins D .next s') ?_ fun _ s' q => wpAny_pure (wpAny_pure q))
  refine wpAny_comprehension_free (use := some (assign (.Name x pos') X.env)) rfl hs (closure_eq (B.cellAt I.ok)) B.kind B.locs (thn (hi pins s σ H _ I h) fun v s1 h1 => thn h1 fun itv s2 h2 => ?_)
  obtain ⟨it, fp, tn, J, H2, e, I2, T, st2, f2, q⟩ := h2
  subst e
  have lt2 : ∀ b ∈ fp, b < s2.heap.objs.size := fun b hb => let ⟨o, e, _⟩ := T.obj _ _ st2 b hb; Heap.lt_size e
  have hD : H2 s2.heap.objs.size = none := I2.hok.fresh (Nat.le_refl _)
  obtain ⟨W, ⟨m0, w0⟩, turn⟩ := q s2.heap.objs.size hD
  refine wpAny_newObj_type ?_
  have I3 : Inv X pins σ (upd H2 s2.heap.objs.size (.lst [])) { s2 with heap := s2.heap.push { cls := .type "list", dict := none, data := .seq ([] : List Value).toArray } } := I2.lnew (t' := s2.toks) (ys := []) (its := []) .nil (Nat.zero_le _)
  have st3 : tn 0 (s2.heap.push { cls := .type "list", dict := none, data := .seq ([] : List Value).toArray }) := T.keep _ _ _ st2 fun b _ o e => Heap.get?_push_of_some _ e
  have nD : ∀ b ∈ fp, b ≠ s2.heap.objs.size := fun b hb => Nat.ne_of_lt (lt2 b hb)
  have f3 : ∀ b ∈ fp, FpOk X pins (upd H2 s2.heap.objs.size (.lst [])) b := fun b hb => ⟨by rw [upd_ne (nD b hb)]; exact (f2 b hb).1, (f2 b hb).2⟩
  generalize hs3 : ({ s2 with heap := s2.heap.push { cls := .type "list", dict := none, data := .seq ([] : List Value).toArray } } : Shared) = s3 at I3 st3 ⊢
  have st3' : tn 0 s3.heap := by rw [← hs3]; exact st3
  have lt3 : ∀ b ∈ fp, b < s3.heap.objs.size := fun b hb => let ⟨o, e, _⟩ := T.obj _ _ st3' b hb; Heap.lt_size e
  generalize hH3 : upd H2 s2.heap.objs.size (.lst []) = H3 at I3 f3 w0
  generalize s2.heap.objs.size = DD at *
  refine wpAny_newFunctionEnvB B.kind (fun h1 hns old cok => ?_)
  have I4 := Inv.enterC (tk := s3.toks) (h1 := h1) B I3 f3 lt3 hns old cok
  have st4 : tn 0 h1 := T.keep _ _ _ st3' fun b _ o e => old b o e
  have fpB : ∀ {H' : Hp}, (∀ b ∈ fp, H' b = none) → ∀ b ∈ fp, FpOk (X.blockC (tgs ++ cap.map (·.1)) scope s3.heap.objs.size s3 H3 fp) [] H' b := fun {H'} hn b hb =>
    ⟨hn b hb, Nat.ne_of_lt (lt3 b hb), I4.ok.exfs b hb, .inl hb, fun x c e => (I4.ok.exf b hb).2 x c e, fun p hp => absurd (show p ∈ ([] : List (Addr × Obj)) from hp) (by simp)⟩
  have loop : codeAny (model X.prog X.w) X.A (.compLoop (.ListComp elt [⟨tg, iter, ifs, 0⟩] scope pos) 0 (.ref it) (.ref DD) (compEnvC scope (cellsFrom (s3.heap.objs.size + 1) scope.names (clsOf X.env scope.names [])) s3.heap.objs.size X.env))
      (compPost (model X.prog X.w) X.A X.xe (some (assign (.Name x pos') X.env)) (fun _ s' => SP X pins D .next s') (.ref DD) s3.heap.objs.size) { s3 with heap := h1 } := by
    refine compLoop_any (fun n s' => ∃ i H' ys, Inv (X.blockC (tgs ++ cap.map (·.1)) scope s3.heap.objs.size s3 H3 fp) [] (blockSt tgs cap σ) H' s' ∧ tn i s'.heap ∧ (∀ b ∈ fp, H' b = none) ∧ W i n H' ys) ?_ m0 ⟨0, H3, [], I4, st4, fun b hb => (f3 b hb).1, w0⟩
    rintro n s5 ⟨i, H5, ys, I5, st5, fr5, w5⟩
    obtain ⟨hl, ht5⟩ := turn i n H5 ys w5
    rcases ht5 with ⟨stop, qd⟩ | ⟨go, step⟩
    · refine thn (T.done (X.blockC (tgs ++ cap.map (·.1)) scope s3.heap.objs.size s3 H3 fp) rfl rfl rfl hc i [] s5 _ H5 _ I5 (fpB fr5) st5 stop) fun r s6 ⟨hr, I6⟩ => ?_
      subst hr
      obtain ⟨m6, n6, _⟩ := I6.loc
      have IO : Inv X pins σ H5 s6 := Inv.leaveC (h2 := s6.heap) I3 f3 I6 ⟨rfl, fun _ _ => rfl⟩
      have fC : FpOk X pins H5 s3.heap.objs.size := ⟨I6.free, (I3.fpOk (Nat.le_refl _) (I3.hok.fresh (Nat.le_refl _))).2⟩
      obtain ⟨f0, f1, f2', f3', f4, f5⟩ := fC
      refine wpAny_assign_Name (store_ok2 IO hN hj hx (show RelV (.ref DD) (.ref DD) from rfl) (fun s7 I7 ⟨a, sb, ha⟩ => ?_) hf)
      have na : s3.heap.objs.size ≠ a := by
        rcases ha with z | z
        · rw [z]; exact f1
        · exact fun y => f4 x a z y.symm
      obtain ⟨o6, es6, ep6, ho6, r6⟩ := n6
      refine ⟨m6, ⟨o6, es6, ep6, (sb.2 _ na).trans ho6, r6⟩, fun h' hs' => ⟨_, H5, I7.turned (t' := s7.toks) (fun b o hb q => (hs'.2 b hb).trans q) f0 f1 f3' f4 f5, qd⟩⟩
    · refine thn (T.item (X.blockC (tgs ++ cap.map (·.1)) scope s3.heap.objs.size s3 H3 fp) rfl rfl rfl hc i [] s5 _ H5 _ I5 (fpB fr5) st5 go) fun r s6 ⟨u, hr, h6⟩ => ?_
      subst hr
      refine thn h6 fun _ s7 ⟨x, H7, I7, r7, y7, st7, fr7⟩ => ?_
      have I7' := I7.pinned (fpB fr7) (T.obj _ _ st7)
      have again : ∀ {σ8 : St} {H8 : Hp} {s8 : Shared} {ys8 : List V}, Inv (X.blockC (tgs ++ cap.map (·.1)) scope s3.heap.objs.size s3 H3 fp) ([] ++ pinsAt fp s7.heap) σ8 H8 s8 → wk (blockSt tgs cap σ) σ8 → (∃ m', m' < n ∧ W (i + 1) m' H8 ys8) →
          ∃ m, m < n ∧ ∃ i H' ys, Inv (X.blockC (tgs ++ cap.map (·.1)) scope s3.heap.objs.size s3 H3 fp) [] (blockSt tgs cap σ) H' s8 ∧ tn i s8.heap ∧ (∀ b ∈ fp, H' b = none) ∧ W i m H' ys := fun {σ8 H8 s8 ys8} I8 k8 ⟨m', hm, w8⟩ => by
        refine ⟨m', hm, i + 1, H8, ys8, I8.unpinned.weak (wk_len k8) (wk_get k8), T.keep _ _ _ st7 fun b hb o e => (I8.pin (b, o) (List.mem_append_right _ (List.mem_append_right _ (mem_pinsAt hb e)))).1, fun b hb => ?_, w8⟩
        obtain ⟨o, e, d⟩ := T.obj _ _ st7 b hb
        exact (I8.pin (b, o) (List.mem_append_right _ (List.mem_append_right _ (mem_pinsAt hb e)))).2.1
      refine thn (hg _ _ _ _ _ s7 _ H7 x u _ I7' r7 (step x H7 y7)) fun _ s8 ⟨σ8, H8, I8, k8, q8⟩ => ?_
      refine thn (ht _ _ _ _ _ s8 σ8 H8 _ I8 q8) fun ok s9 ⟨H9, I9, q9⟩ => ?_
      cases ok with
      | false =>
        rw [if_neg Bool.false_ne_true] at q9 ⊢
        exact again I9 k8 q9
      | true =>
        rw [if_pos rfl] at q9 ⊢
        refine thn (he _ _ _ _ _ s9 σ8 H9 _ I9 q9) fun y sA ⟨yv, HA, IA, rA, hA, zA, qA⟩ => ?_
        exact thn (mt_append _ sA σ8 HA (.ref DD) [yv] (.ref DD) [y] (fun v H' => v = .non ∧ ∃ m', m' < n ∧ W (i + 1) m' H' (ys ++ [yv])) IA rfl (.cons rA .nil) ⟨DD, ys, yv, rfl, rfl, hA, zA, rfl, qA⟩) fun _ sB ⟨_, HB, IB, _, _, qB⟩ => again IB k8 qB
  exact codeAny_compStart_list loop (T.self _ 0 _ _ _ st4 loop)
end
end L2
set_option Elab.async false
set_option linter.all false
set_option maxRecDepth 100000
set_option maxHeartbeats 4000000
namespace LZ
open PySem
section
variable {prog : Program} {w : World} {A : Around} {E : Value → Shared → Prop} {s : Shared}
abbrev IsZ (h : Heap) (z TI TO : Addr) (f0 : Value) (f1 : Bool) : Prop :=
  h.get? z = some { cls := .type "zip", dict := none, data := .fields #[f0, .bool f1, .bool false, .ref TI, .ref TO], slots := #[] }
structure Apart5 (z TI TO i1 i2 l : Addr) : Prop where
  TIz : TI ≠ z
  TOz : TO ≠ z
  i1z : i1 ≠ z
  i2z : i2 ≠ z
  TITO : TI ≠ TO
  TIi1 : TI ≠ i1
  TIi2 : TI ≠ i2
  TOi1 : TO ≠ i1
  TOi2 : TO ≠ i2
  i12 : i1 ≠ i2
  lz : l ≠ z
  lTO : l ≠ TO
  li1 : l ≠ i1
  li2 : l ≠ i2
theorem sign_next {ty : String} (hty : ty = "str_ascii_iterator" ∨ ty = "str_iterator") {it : Addr} {x : Str} {t : Tok} {i c : Nat} {Q : Value → Shared → Prop} (hit : s.heap.IsStrIter it ty x t i) (hx : x.cps[i]? = some c)
    (hQ : ∀ h', h'.IsStrIter it ty x t (i + 1) → Heap.SameBut it s.heap h' → Q (.str ⟨#[c]⟩ s.toks) { s with heap := h', toks := s.toks + 1 }) :
    wpAny (model prog w) A (Builtin.SmallTypes.nextOf (.ref it)) Q E s := by
  rcases hty with e | e
  · subst e; exact wpAny_nextOf_ascii_item hit hx hQ
  · subst e; exact wpAny_nextOf_wide_item hit hx hQ
theorem next_first {ty : String} (hty : ty = "str_ascii_iterator" ∨ ty = "str_iterator") {z TI TO i1 i2 l : Addr} {k c : Nat} {xs : Array Value} {x : Str} {t : Tok} {v a b : Value} {Q : Option Value → Shared → Prop} (D : Apart5 z TI TO i1 i2 l)
    (hz : IsZ s.heap z TI TO .none false) (hTI : IsPair s.heap TI (.ref i1) (.ref i2)) (hTO : IsPair s.heap TO a b) (h1 : s.heap.IsListIter i1 l k) (h2 : s.heap.IsStrIter i2 ty x t k) (hl : s.heap.IsList l xs) (hv : xs[k]? = some v) (hc : x.cps[k]? = some c)
    (hQ : ∀ h', IsZ h' z TI TO (rawInt s.heap.objs.size) false → (∃ a b, IsPair h' TO a b) → h'.IsListIter i1 l (k + 1) → h'.IsStrIter i2 ty x t (k + 1) → IsPair h' s.heap.objs.size v (.str ⟨#[c]⟩ s.toks) → h'.objs.size = s.heap.objs.size + 1 →
      (∀ c o, c ≠ z → c ≠ TO → c ≠ i1 → c ≠ i2 → s.heap.get? c = some o → h'.get? c = some o) → Q (some (.ref s.heap.objs.size)) { s with heap := h', toks := s.toks + 1 }) :
    wpAny (model prog w) A (pyNext (.ref z)) Q E s := by
  have hT : s.TypeIs (.ref z) "zip" := ⟨_, hz, rfl⟩
  unfold pyNext
  refine wpAny_bind (wpAny_attempt (wpAny_callSpecial?_slot (name := Str.ofString "__next__") hT F.slot_zip_next
    (wpAny_call_entry F.slot_zip_next hT F.entry_zip_next ?_ (F.args_zip_next_1 _))))
  show wpAny _ _ (field (.ref z) 2 >>= _) _ _ _
  refine wpAny_bind (wpAny_field hz rfl (x := .bool false) rfl ?_)
  show wpAny _ _ (field (.ref z) 3 >>= _) _ _ _
  refine wpAny_bind (wpAny_field hz rfl (x := .ref TI) rfl ?_)
  refine wpAny_bind (wpAny_seqItems hTI rfl ?_)
  show wpAny _ _ (Builtin.SmallTypes.ownedTupleIsFree (.ref z) >>= _) _ _ _
  refine wpAny_bind ?_
  unfold Builtin.SmallTypes.ownedTupleIsFree
  refine wpAny_bind (wpAny_field hz rfl (x := .none) rfl (wpAny_pure ?_))
  simp only [if_true]
  refine wpAny_bind (wpAny_rule ?_)
  refine wpAny_bind (wpAny_field hz rfl (x := .ref TO) rfl ?_)
  refine wpAny_bind (wpAny_setField_rec hz (by simp) fun h₁ hz₁ hs₁ => ?_)
  replace hz₁ : IsZ h₁ z TI TO .ellipsis false := hz₁
  refine wpAny_bind ?_
  simp only [List.zipIdx_cons, List.zipIdx_nil, List.forIn_cons, List.forIn_nil]
  refine wpAny_bind (wpAny_bind (wpAny_onRaise ?_))
  show wpAny _ _ (Builtin.SmallTypes.nextOf (.ref i1) >>= _) _ _ _
  refine wpAny_bind (wpAny_nextOf_list_item (h1.extBut hs₁.extBut D.i1z) (hl.extBut hs₁.extBut D.lz) hv fun h₂ h1₂ hs₂ => wpAny_pure ?_)
  have hTO₂ : IsPair h₂ TO a b := hs₂.extBut _ _ D.TOi1 (hs₁.extBut _ _ D.TOz hTO)
  refine wpAny_bind (wpAny_seqItems hTO₂ rfl ?_)
  refine wpAny_bind (wpAny_updateSeq_pair hTO₂ fun h₃ hTO₃ hs₃ => ?_)
  replace hTO₃ : IsPair h₃ TO v b := hTO₃
  refine wpAny_bind (wpAny_letGo (wpAny_pure ?_))
  refine wpAny_bind (wpAny_bind (wpAny_onRaise ?_))
  show wpAny _ _ (Builtin.SmallTypes.nextOf (.ref i2) >>= _) _ _ _
  have h2₃ : h₃.IsStrIter i2 ty x t k := ((h2.extBut hs₁.extBut D.i2z).extBut hs₂.extBut D.i12.symm).extBut hs₃.extBut D.TOi2.symm
  refine wpAny_bind (sign_next hty h2₃ hc fun h₄ h2₄ hs₄ => wpAny_pure ?_)
  have hTO₄ : IsPair h₄ TO v b := hs₄.extBut _ _ D.TOi2 hTO₃
  refine wpAny_bind (wpAny_seqItems hTO₄ rfl ?_)
  refine wpAny_bind (wpAny_updateSeq_pair hTO₄ fun h₅ hTO₅ hs₅ => ?_)
  replace hTO₅ : IsPair h₅ TO v (.str ⟨#[c]⟩ s.toks) := hTO₅
  refine wpAny_bind (wpAny_letGo (wpAny_pure (wpAny_pure ?_)))
  refine wpAny_bind (wpAny_seqItems hTO₅ rfl ?_)
  refine wpAny_bind (wpAny_newTuple ?_)
  have hsz : h₅.objs.size = s.heap.objs.size := by rw [hs₅.1, hs₄.1, hs₃.1, hs₂.1, hs₁.1]
  have hz₅ : IsZ h₅ z TI TO .ellipsis false := hs₅.extBut _ _ D.TOz.symm (hs₄.extBut _ _ D.i2z.symm (hs₃.extBut _ _ D.TOz.symm (hs₂.extBut _ _ D.i1z.symm hz₁)))
  have hk₅ : ∀ c o, c ≠ z → c ≠ TO → c ≠ i1 → c ≠ i2 → s.heap.get? c = some o → h₅.get? c = some o := fun c o c1 c2 c3 c4 e =>
    hs₅.extBut _ _ c2 (hs₄.extBut _ _ c4 (hs₃.extBut _ _ c2 (hs₂.extBut _ _ c3 (hs₁.extBut _ _ c1 e))))
  have h1₅ : h₅.IsListIter i1 l (k + 1) := ((h1₂.extBut hs₃.extBut D.TOi1.symm).extBut hs₄.extBut D.i12).extBut hs₅.extBut D.TOi1.symm
  have h2₅ : h₅.IsStrIter i2 ty x t (k + 1) := h2₄.extBut hs₅.extBut D.TOi2.symm
  have hzlt : z < h₅.objs.size := Heap.lt_size hz₅
  show wpAny _ _ (Builtin.SmallTypes.ownedTupleHandOut (.ref z) (.ref h₅.objs.size) >>= _) _ _ _
  refine wpAny_bind ?_
  unfold Builtin.SmallTypes.ownedTupleHandOut
  have hz₆ : IsZ (h₅.push { cls := .type "tuple", data := .seq #[v, .str ⟨#[c]⟩ s.toks] }) z TI TO .ellipsis false := Heap.get?_push_of_some _ hz₅
  refine wpAny_bind (wpAny_setField_rec hz₆ (by simp) fun h₇ hz₇ hs₇ => ?_)
  replace hz₇ : IsZ h₇ z TI TO (rawInt h₅.objs.size) false := hz₇
  refine wpAny_setField_rec hz₇ (by simp) fun h₈ hz₈ hs₈ => ?_
  replace hz₈ : IsZ h₈ z TI TO (rawInt h₅.objs.size) false := hz₈
  have up : ∀ c o, c ≠ z → h₅.get? c = some o → h₈.get? c = some o := fun c o c1 e => hs₈.extBut _ _ c1 (hs₇.extBut _ _ c1 (Heap.get?_push_of_some _ e))
  have hT₈ : IsPair h₈ h₅.objs.size v (.str ⟨#[c]⟩ s.toks) := hs₈.extBut _ _ (Nat.ne_of_gt hzlt) (hs₇.extBut _ _ (Nat.ne_of_gt hzlt) (Heap.get?_push_size _ rfl))
  have hz8 : h₈.objs.size = h₅.objs.size + 1 := by rw [hs₈.1, hs₇.1, Heap.size_push]
  rw [hsz] at hz₈ hT₈ hz8
  refine wpAny_pure ⟨_, rfl, wpAny_pure ?_⟩
  show Q (some (.ref h₅.objs.size)) _
  rw [hsz]
  exact hQ h₈ hz₈ ⟨_, _, up _ _ D.TOz hTO₅⟩ (h1₅.at fun o e => up _ o D.i1z e) (let ⟨o, e, r⟩ := h2₅; ⟨o, up _ o D.i2z e, r⟩) hT₈ hz8 fun c o c1 c2 c3 c4 e => up c o c1 (hk₅ c o c1 c2 c3 c4 e)
theorem alive {a : Addr} {o : Obj} {Q : Option Obj → Shared → Prop} (ho : s.heap.get? a = some o) (h : Q (some o) s) : wpAny (model prog w) A (loadIfAlive a) Q E s := by
  have h' : Q (s.heap.get? a) s := by rw [ho]; exact h
  exact fun _ _ _ => h'
theorem next_end {z TI TO i1 i2 l : Addr} {f0 : Value} {f1 : Bool} {k : Nat} {xs : Array Value} {a b : Value} {Q : Option Value → Shared → Prop} (hh : A.handled = none) (D : Apart5 z TI TO i1 i2 l)
    (hz : IsZ s.heap z TI TO f0 f1) (hf : (f0 = .none ∧ f1 = false ∧ ∃ a b, IsPair s.heap TO a b) ∨ ∃ (T : Addr) (oT : Obj), f0 = rawInt (T : Nat) ∧ s.heap.get? T = some oT) (hTI : IsPair s.heap TI (.ref i1) (.ref i2)) (h1 : s.heap.IsListIter i1 l k) (hl : s.heap.IsList l xs) (hv : xs[k]? = none)
    (hQ : ∀ h', (∀ c o, c ≠ z → c ≠ i1 → s.heap.get? c = some o → h'.get? c = some o) → Q none { s with heap := h' }) : wpAny (model prog w) A (pyNext (.ref z)) Q E s := by
  have hTy : s.TypeIs (.ref z) "zip" := ⟨_, hz, rfl⟩
  unfold pyNext
  refine wpAny_bind (wpAny_attempt (wpAny_callSpecial?_slot (name := Str.ofString "__next__") hTy F.slot_zip_next
    (wpAny_call_entry F.slot_zip_next hTy F.entry_zip_next ?_ (F.args_zip_next_1 _))))
  show wpAny _ _ (field (.ref z) 2 >>= _) _ _ _
  refine wpAny_bind (wpAny_field hz rfl (x := .bool false) rfl ?_)
  show wpAny _ _ (field (.ref z) 3 >>= _) _ _ _
  refine wpAny_bind (wpAny_field hz rfl (x := .ref TI) rfl ?_)
  refine wpAny_bind (wpAny_seqItems hTI rfl ?_)
  show wpAny _ _ (Builtin.SmallTypes.ownedTupleIsFree (.ref z) >>= _) _ _ _
  refine wpAny_bind ?_
  unfold Builtin.SmallTypes.ownedTupleIsFree
  refine wpAny_bind (wpAny_field hz rfl (x := f0) rfl ?_)
  have fin : ∀ h' e, (∀ c o, c ≠ z → c ≠ i1 → s.heap.get? c = some o → h'.get? c = some o) → (∃ o, h'.get? e = some o ∧ o.cls = .type "StopIteration") →
      wpAny (model prog w) A (do if ← isInstance (.ref e) (.type "StopIteration") then pure none else throw (.ref e)) Q E { s with heap := h' } := fun h' e hk ⟨o, ho, hc⟩ =>
    wpAny_bind (wpAny_isInstance (T := "StopIteration") (b := true) ⟨o, ho, hc⟩ isSubtype_stop (wpAny_pure (hQ _ hk)))
  rcases hf with ⟨e1, e2, a, b, hTO⟩ | ⟨T, oT, e1, hT⟩
  · subst e1 e2
    refine wpAny_pure ?_
    simp only [if_true]
    refine wpAny_bind (wpAny_rule ?_)
    refine wpAny_bind (wpAny_field hz rfl (x := .ref TO) rfl ?_)
    refine wpAny_bind (wpAny_setField_rec hz (by simp) fun h₁ hz₁ hs₁ => ?_)
    replace hz₁ : IsZ h₁ z TI TO .ellipsis false := hz₁
    refine wpAny_bind ?_
    simp only [List.zipIdx_cons, List.zipIdx_nil, List.forIn_cons, List.forIn_nil]
    refine wpAny_bind (wpAny_bind (wpAny_onRaise ?_))
    show wpAny _ _ (Builtin.SmallTypes.nextOf (.ref i1) >>= _) _ _ _
    refine wpAny_bind (wpAny_nextOf_list_end hh (h1.extBut hs₁.extBut D.i1z) (hl.extBut hs₁.extBut D.lz) hv fun h₂ e hs₂ he => ?_)
    obtain ⟨oe, hoe, hce⟩ := he
    have hz₂ : IsZ h₂ z TI TO .ellipsis false := hs₂ _ _ D.i1z.symm hz₁
    have hez : e ≠ z := fun x => by subst x; rw [hz₂] at hoe; cases hoe; simp at hce
    refine wpAny_setField_rec hz₂ (by simp) fun h₃ _ hs₃ => ?_
    exact fin h₃ e (fun c o c1 c3 x => hs₃.extBut _ _ c1 (hs₂ _ _ c3 (hs₁.extBut _ _ c1 x))) ⟨oe, hs₃.extBut _ _ hez hoe, hce⟩
  · subst e1
    show wpAny _ _ (loadIfAlive ((T : Int).toNat) >>= _) _ _ _
    rw [Int.toNat_natCast]
    refine wpAny_bind (alive hT ?_)
    simp only [Option.isNone_some, Bool.false_eq_true, if_false]
    refine wpAny_bind (wpAny_field hz rfl (x := .bool f1) rfl ?_)
    cases f1 with
    | false =>
      simp only [show (Value.bool false != Value.bool true) = true from rfl, if_true]
      refine wpAny_bind (wpAny_setField_rec hz (by simp) fun h₁ hz₁ hs₁ => wpAny_pure ?_)
      replace hz₁ : IsZ h₁ z TI TO (rawInt T) true := hz₁
      simp only [Bool.false_eq_true, if_false, List.forIn_toArray, List.forIn_cons, List.forIn_nil]
      refine wpAny_bind (wpAny_bind (wpAny_bind (wpAny_holding ?_)))
      show wpAny _ _ (Builtin.SmallTypes.nextOf (.ref i1) >>= _) _ _ _
      refine wpAny_bind (wpAny_nextOf_list_end hh (h1.extBut hs₁.extBut D.i1z) (hl.extBut hs₁.extBut D.lz) hv fun h₂ e hs₂ he => ?_)
      exact fin h₂ e (fun c o c1 c3 x => hs₂ _ _ c3 (hs₁.extBut _ _ c1 x)) he
    | true =>
      simp only [show (Value.bool true != Value.bool true) = false from rfl, Bool.false_eq_true, if_false]
      refine wpAny_pure ?_
      simp only [Bool.false_eq_true, if_false, List.forIn_toArray, List.forIn_cons, List.forIn_nil]
      refine wpAny_bind (wpAny_bind (wpAny_bind (wpAny_holding ?_)))
      show wpAny _ _ (Builtin.SmallTypes.nextOf (.ref i1) >>= _) _ _ _
      refine wpAny_bind (wpAny_nextOf_list_end hh h1 hl hv fun h₂ e hs₂ he => ?_)
      exact fin h₂ e (fun c o c1 c3 x => hs₂ _ _ c3 x) he

abbrev zH1 (h : Heap) (l : Addr) : Heap := h.push { cls := .type "list_iterator", data := .fields #[.ref l, .int 0 0] }
abbrev zH2 (h : Heap) (l : Addr) (ty : String) (x : Str) (t : Tok) : Heap := (zH1 h l).push { cls := .type ty, data := .fields #[.str x t, .int 0 0] }
abbrev zH3 (h : Heap) (l : Addr) (ty : String) (x : Str) (t : Tok) : Heap := (zH2 h l ty x t).push { cls := .type "tuple", data := .seq #[.ref h.objs.size, .ref (zH1 h l).objs.size] }
abbrev zH4 (h : Heap) (l : Addr) (ty : String) (x : Str) (t : Tok) : Heap := (zH3 h l ty x t).push { cls := .type "tuple", data := .seq #[.none, .none] }
abbrev zH5 (h : Heap) (l : Addr) (ty : String) (x : Str) (t : Tok) : Heap := (zH4 h l ty x t).push { cls := .type "zip", data := .fields #[.none, .bool false, .bool false, .ref (zH2 h l ty x t).objs.size, .ref (zH3 h l ty x t).objs.size] }
noncomputable def tyOf (x : Str) : String := if x.cps.all (· < 128) = true then "str_ascii_iterator" else "str_iterator"
theorem iter_sign {x : Str} {t : Tok} {Q : Value → Shared → Prop} (hQ : Q (.ref s.heap.objs.size) { s with heap := s.heap.push { cls := .type (tyOf x), data := .fields #[.str x t, .int 0 0] } }) : wpAny (model prog w) A (pyIter (.str x t)) Q E s := by
  unfold tyOf at hQ
  cases ha : x.cps.all (· < 128) with
  | true => rw [ha, if_pos rfl] at hQ; exact wpAny_pyIter_ascii ha hQ
  | false => rw [ha, if_neg Bool.false_ne_true] at hQ; exact wpAny_pyIter_wide ha hQ
theorem meets_new (l : Addr) (xs : Array Value) (x : Str) (t : Tok) :
    Meets (Builtin.«zip.__new__» ⟨[.type "zip", .ref l, .str x t], []⟩) (fun _ R s => s.heap.IsList l xs ∧ R (.ok (.ret (.ref (zH4 s.heap l (tyOf x) x t).objs.size))) { s with heap := zH5 s.heap l (tyOf x) x t }) :=
  .of_wp fun prog w A R s h => by
    obtain ⟨hp, g, d, tk, os⟩ := s; obtain ⟨hl1, h⟩ := h
    have hsub := sub_zip
    have hL1 : Heap.IsList (Shared.heap ⟨hp, g, d, tk, os⟩) l xs := hl1
    wp_walk using wpAny_pyIter_list hL1, iter_sign
    exact ⟨_, rfl, h⟩
theorem call_zip {l : Addr} {xs : Array Value} {x : Str} {t : Tok} {Q : Value → Shared → Prop} (hl1 : s.heap.IsList l xs)
    (h : ∀ h', IsZ h' (s.heap.objs.size + 4) (s.heap.objs.size + 2) (s.heap.objs.size + 3) .none false → IsPair h' (s.heap.objs.size + 2) (.ref s.heap.objs.size) (.ref (s.heap.objs.size + 1)) →
      IsPair h' (s.heap.objs.size + 3) .none .none → h'.IsListIter s.heap.objs.size l 0 → h'.IsStrIter (s.heap.objs.size + 1) (tyOf x) x t 0 → h'.objs.size = s.heap.objs.size + 5 →
      (∀ c o, s.heap.get? c = some o → h'.get? c = some o) → Q (.ref (s.heap.objs.size + 4)) { s with heap := h' }) :
    wpAny (model prog w) A (call (.type "zip") [.ref l, .str x t]) Q E s := by
  refine callType_new F.called_zip (by decide) (F.typeCall_zip_2 _ _) (F.newCall_zip_2 _ _) (fun obj => F.args_object_init_3 obj _ _) F.entry_zip_new (meets_new l xs x t) ⟨hl1, ?_⟩
  have z1 : (zH1 s.heap l).objs.size = s.heap.objs.size + 1 := Heap.size_push ..
  have z2 : (zH2 s.heap l (tyOf x) x t).objs.size = s.heap.objs.size + 2 := by rw [Heap.size_push, z1]
  have z3 : (zH3 s.heap l (tyOf x) x t).objs.size = s.heap.objs.size + 3 := by rw [Heap.size_push, z2]
  have z4 : (zH4 s.heap l (tyOf x) x t).objs.size = s.heap.objs.size + 4 := by rw [Heap.size_push, z3]
  have z5 : (zH5 s.heap l (tyOf x) x t).objs.size = s.heap.objs.size + 5 := by rw [Heap.size_push, z4]
  have g5 : (zH5 s.heap l (tyOf x) x t).get? (zH4 s.heap l (tyOf x) x t).objs.size = some _ := Heap.get?_push_size _ rfl
  have g4 : (zH5 s.heap l (tyOf x) x t).get? (zH3 s.heap l (tyOf x) x t).objs.size = some _ := Heap.get?_push_of_some _ (Heap.get?_push_size _ rfl)
  have g3 : (zH5 s.heap l (tyOf x) x t).get? (zH2 s.heap l (tyOf x) x t).objs.size = some _ := Heap.get?_push_of_some _ (Heap.get?_push_of_some _ (Heap.get?_push_size _ rfl))
  have g2 : (zH5 s.heap l (tyOf x) x t).get? (zH1 s.heap l).objs.size = some _ := Heap.get?_push_of_some _ (Heap.get?_push_of_some _ (Heap.get?_push_of_some _ (Heap.get?_push_size _ rfl)))
  have g1 : (zH5 s.heap l (tyOf x) x t).get? s.heap.objs.size = some _ := Heap.get?_push_of_some _ (Heap.get?_push_of_some _ (Heap.get?_push_of_some _ (Heap.get?_push_of_some _ (Heap.get?_push_size _ rfl))))
  show _ ∧ _
  rw [z2, z3, z4] at g5
  rw [z1, z2] at g3
  rw [z3] at g4
  rw [z1] at g2
  rw [z4]
  exact ⟨⟨_, g5, rfl⟩, h _ g5 g3 g4 ⟨_, g1, rfl, rfl⟩ ⟨_, g2, rfl, rfl⟩ z5 fun c o x =>
    Heap.get?_push_of_some _ (Heap.get?_push_of_some _ (Heap.get?_push_of_some _ (Heap.get?_push_of_some _ (Heap.get?_push_of_some _ x))))⟩

end
end LZ
set_option Elab.async false
set_option linter.all false
set_option maxRecDepth 100000
set_option maxHeartbeats 4000000
namespace LZ
open PySem
structure ApartD (z TI TO i1 i2 l d : Addr) : Prop extends Apart5 z TI TO i1 i2 l where
  dz : d ≠ z
  dTI : d ≠ TI
  dTO : d ≠ TO
  di1 : d ≠ i1
  di2 : d ≠ i2
  dl : d ≠ l
structure ZS (h : Heap) (z TI TO i1 i2 l d : Addr) (ty : String) (x : Str) (t : Tok) (xs : Array Value) (k : Nat) : Prop where
  zf : (IsZ h z TI TO .none false ∧ ∃ a b, IsPair h TO a b) ∨ ∃ (T : Addr) (f1 : Bool) (oT : Obj), IsZ h z TI TO (rawInt (T : Nat)) f1 ∧ h.get? T = some oT ∧ T ≠ z ∧ T ≠ i1 ∧ T ≠ i2 ∧ T ≠ d
  ti : IsPair h TI (.ref i1) (.ref i2)
  a1 : h.IsListIter i1 l k
  a2 : h.IsStrIter i2 ty x t k
  li : h.IsList l xs
section
variable {prog : Program} {w : World} {K : Type} [DecidableEq K] {knd : KeyKind prog w K} {A : Around} {R : Result → Shared → Prop}
theorem ZS.dict {h h' : Heap} {z TI TO i1 i2 l d : Addr} {ty : String} {x : Str} {t : Tok} {xs : Array Value} {k : Nat} (D : ApartD z TI TO i1 i2 l d) (Z : ZS h z TI TO i1 i2 l d ty x t xs k) (hs : Heap.SameBut d h h') : ZS h' z TI TO i1 i2 l d ty x t xs k := by
  refine ⟨?_, hs.extBut _ _ D.dTI.symm Z.ti, Z.a1.extBut hs.extBut D.di1.symm, Z.a2.extBut hs.extBut D.di2.symm, Z.li.extBut hs.extBut D.dl.symm⟩
  rcases Z.zf with ⟨hz, a, b, hTO⟩ | ⟨T, f1, oT, hz, hT, n1, n2, n3, n4⟩
  · exact .inl ⟨hs.extBut _ _ D.dz.symm hz, a, b, hs.extBut _ _ D.dTO.symm hTO⟩
  · exact .inr ⟨T, f1, oT, hs.extBut _ _ D.dz.symm hz, hs.extBut _ _ n4 hT, n1, n2, n3, n4⟩
end
end LZ
set_option Elab.async false
set_option linter.all false
set_option maxRecDepth 100000
set_option maxHeartbeats 4000000
namespace L2
open PySem PySem.Spec PyProof.Rows
theorem paired_get {α β : Type} {F : α → β → Prop} : ∀ {xs : List α} {ys : List β}, xs.length = ys.length → (∀ (j : Nat) x y, xs[j]? = some x → ys[j]? = some y → F x y) → Paired F xs ys
  | [], [], _, _ => .nil
  | x :: xs, y :: ys, hl, h => .cons (h 0 x y rfl rfl) (paired_get (by simpa using hl) fun j a b e1 e2 => h (j + 1) a b (by simpa using e1) (by simpa using e2))
section
variable {X : Cx} {a b : Expr} {ta : TA} {p1 p2 pos1 pos2 : Pos}
end
end L2
set_option Elab.async false
set_option linter.all false
set_option maxRecDepth 100000
set_option maxHeartbeats 4000000
namespace L2
open PySem PySem.Spec PyProof.Rows
theorem Inv.turnedL {X : Cx} {pins : List (Addr × Obj)} {σ : St} {H : Hp} {s : Shared} {h' : Heap} {t' : Nat} {T : Addr} {o : HO} {ch : List Addr} (I : Inv X pins σ H s) (k : ∀ b o, b ∉ ch → s.heap.get? b = some o → h'.get? b = some o)
    (f : ∀ b ∈ ch, FpOk X pins H b) (hT : s.heap.objs.size ≤ T) (new : ObjOk X.prog X.w (upd H T o) h' T o) : Inv X pins σ (upd H T o) { s with heap := h', toks := t' } := by
  have hn : H T = none := I.hok.fresh hT
  have nT : ∀ b u, s.heap.get? b = some u → b ≠ T := fun b u q => Nat.ne_of_lt (Nat.lt_of_lt_of_le (Heap.lt_size q) hT)
  have n : ∀ b u, H b = some u → b ∉ ch := fun b u q z => by rw [(f b z).1] at q; cases q
  refine I.step (g' := s.gens) (d' := s.drawn) (ch := ch) (fun b hb => ?_) (fun b u _ _ hc q _ => k b u hc q) (fun b u _ _ hc q _ => ⟨u.slots, k b u hc q⟩) (fun b u _ q n => by rw [upd_ne (nT b u q)]; exact n)
    (fun b u hc q => ⟨u, k b u hc q⟩) (fun b xs q => by rw [upd_ne (ne_of_none q hn)]; exact q) (fun b u xs q => by rw [upd_ne (ne_of_none q hn)]; exact q) (fun b ps q => ⟨#[], by rw [upd_ne (ne_of_none q hn), q]; simp⟩) (fun m hm => ?_) (fun b u q => ?_) I.bare
  · obtain ⟨_, a2, _, a4, a5, a6⟩ := f b hb
    exact ⟨a4, a2, a5, a6⟩
  · obtain ⟨ob, es, ep, ho, r⟩ := hm
    exact ⟨ob, es, ep, k _ ob (fun z => (f _ z).2.1 rfl) ho, r⟩
  · by_cases hb : b = T
    · subst hb
      rw [upd_same] at q
      cases q
      exact new
    · rw [upd_ne hb] at q
      refine (I.hok b u q).stay (fun c v hc z => k c v ?_ z) (fun c z => by rw [upd_ne (ne_of_none z hn)]; exact z) fun c xs z => by rw [upd_ne (ne_of_none z hn)]; exact z
      rcases hc with z | z
      · rw [z]; exact n b u q
      · exact n c _ z
theorem Inv.turnedE {X : Cx} {pins : List (Addr × Obj)} {σ : St} {H : Hp} {s : Shared} {h' : Heap} {t' : Nat} {ch : List Addr} (I : Inv X pins σ H s) (k : ∀ b o, b ∉ ch → s.heap.get? b = some o → h'.get? b = some o)
    (f : ∀ b ∈ ch, FpOk X pins H b) : Inv X pins σ H { s with heap := h', toks := t' } := by
  have n : ∀ b u, H b = some u → b ∉ ch := fun b u q z => by rw [(f b z).1] at q; cases q
  refine I.step (g' := s.gens) (d' := s.drawn) (ch := ch) (fun b hb => ?_) (fun b u _ _ hc q _ => k b u hc q) (fun b u _ _ hc q _ => ⟨u.slots, k b u hc q⟩) (fun b u _ q n => n)
    (fun b u hc q => ⟨u, k b u hc q⟩) (fun b xs q => q) (fun b u xs q => q) (fun b ps q => ⟨#[], by rw [q]; simp⟩) (fun m hm => ?_) (fun b u q => ?_) I.bare
  · obtain ⟨_, a2, _, a4, a5, a6⟩ := f b hb
    exact ⟨a4, a2, a5, a6⟩
  · obtain ⟨ob, es, ep, ho, r⟩ := hm
    exact ⟨ob, es, ep, k _ ob (fun z => (f _ z).2.1 rfl) ho, r⟩
  · refine (I.hok b u q).stay (fun c v hc z => k c v ?_ z) (fun c z => z) fun c xs z => z
    rcases hc with z | z
    · rw [z]; exact n b u q
    · exact n c _ z
section
variable {X : Cx} {elts : List Expr} {k : Nat} {tpos : Pos}
end
section
variable {X : Cx}
end
end L2
set_option Elab.async false
set_option linter.all false
set_option maxRecDepth 100000
set_option maxHeartbeats 4000000
namespace LY
open PySem LZ
section
variable {prog : Program} {w : World} {A : Around} {E : Value → Shared → Prop} {s : Shared}
theorem next_first {z TI TO i1 i2 l : Addr} {m : Addr} {k : Nat} {xs ys : Array Value} {v u a b : Value} {Q : Option Value → Shared → Prop} (D : Apart5 z TI TO i1 i2 l) (mz : m ≠ z) (mTO : m ≠ TO) (mi1 : m ≠ i1) (mi2 : m ≠ i2)
    (hz : IsZ s.heap z TI TO .none false) (hTI : IsPair s.heap TI (.ref i1) (.ref i2)) (hTO : IsPair s.heap TO a b) (h1 : s.heap.IsListIter i1 l k) (h2 : s.heap.IsListIter i2 m k) (hl : s.heap.IsList l xs) (hm : s.heap.IsList m ys) (hv : xs[k]? = some v) (hc : ys[k]? = some u)
    (hQ : ∀ h', IsZ h' z TI TO (rawInt s.heap.objs.size) false → (∃ a b, IsPair h' TO a b) → h'.IsListIter i1 l (k + 1) → h'.IsListIter i2 m (k + 1) → IsPair h' s.heap.objs.size v u → h'.objs.size = s.heap.objs.size + 1 →
      (∀ c o, c ≠ z → c ≠ TO → c ≠ i1 → c ≠ i2 → s.heap.get? c = some o → h'.get? c = some o) → Q (some (.ref s.heap.objs.size)) { s with heap := h' }) :
    wpAny (model prog w) A (pyNext (.ref z)) Q E s := by
  have hT : s.TypeIs (.ref z) "zip" := ⟨_, hz, rfl⟩
  unfold pyNext
  refine wpAny_bind (wpAny_attempt (wpAny_callSpecial?_slot (name := Str.ofString "__next__") hT F.slot_zip_next
    (wpAny_call_entry F.slot_zip_next hT F.entry_zip_next ?_ (F.args_zip_next_1 _))))
  show wpAny _ _ (field (.ref z) 2 >>= _) _ _ _
  refine wpAny_bind (wpAny_field hz rfl (x := .bool false) rfl ?_)
  show wpAny _ _ (field (.ref z) 3 >>= _) _ _ _
  refine wpAny_bind (wpAny_field hz rfl (x := .ref TI) rfl ?_)
  refine wpAny_bind (wpAny_seqItems hTI rfl ?_)
  show wpAny _ _ (Builtin.SmallTypes.ownedTupleIsFree (.ref z) >>= _) _ _ _
  refine wpAny_bind ?_
  unfold Builtin.SmallTypes.ownedTupleIsFree
  refine wpAny_bind (wpAny_field hz rfl (x := .none) rfl (wpAny_pure ?_))
  simp only [if_true]
  refine wpAny_bind (wpAny_rule ?_)
  refine wpAny_bind (wpAny_field hz rfl (x := .ref TO) rfl ?_)
  refine wpAny_bind (wpAny_setField_rec hz (by simp) fun h₁ hz₁ hs₁ => ?_)
  replace hz₁ : IsZ h₁ z TI TO .ellipsis false := hz₁
  refine wpAny_bind ?_
  simp only [List.zipIdx_cons, List.zipIdx_nil, List.forIn_cons, List.forIn_nil]
  refine wpAny_bind (wpAny_bind (wpAny_onRaise ?_))
  show wpAny _ _ (Builtin.SmallTypes.nextOf (.ref i1) >>= _) _ _ _
  refine wpAny_bind (wpAny_nextOf_list_item (h1.extBut hs₁.extBut D.i1z) (hl.extBut hs₁.extBut D.lz) hv fun h₂ h1₂ hs₂ => wpAny_pure ?_)
  have hTO₂ : IsPair h₂ TO a b := hs₂.extBut _ _ D.TOi1 (hs₁.extBut _ _ D.TOz hTO)
  refine wpAny_bind (wpAny_seqItems hTO₂ rfl ?_)
  refine wpAny_bind (wpAny_updateSeq_pair hTO₂ fun h₃ hTO₃ hs₃ => ?_)
  replace hTO₃ : IsPair h₃ TO v b := hTO₃
  refine wpAny_bind (wpAny_letGo (wpAny_pure ?_))
  refine wpAny_bind (wpAny_bind (wpAny_onRaise ?_))
  show wpAny _ _ (Builtin.SmallTypes.nextOf (.ref i2) >>= _) _ _ _
  have h2₃ : h₃.IsListIter i2 m k := ((h2.extBut hs₁.extBut D.i2z).extBut hs₂.extBut D.i12.symm).extBut hs₃.extBut D.TOi2.symm
  refine wpAny_bind (wpAny_nextOf_list_item h2₃ (((hm.extBut hs₁.extBut mz).extBut hs₂.extBut mi1).extBut hs₃.extBut mTO) hc fun h₄ h2₄ hs₄ => wpAny_pure ?_)
  have hTO₄ : IsPair h₄ TO v b := hs₄.extBut _ _ D.TOi2 hTO₃
  refine wpAny_bind (wpAny_seqItems hTO₄ rfl ?_)
  refine wpAny_bind (wpAny_updateSeq_pair hTO₄ fun h₅ hTO₅ hs₅ => ?_)
  replace hTO₅ : IsPair h₅ TO v u := hTO₅
  refine wpAny_bind (wpAny_letGo (wpAny_pure (wpAny_pure ?_)))
  refine wpAny_bind (wpAny_seqItems hTO₅ rfl ?_)
  refine wpAny_bind (wpAny_newTuple ?_)
  have hsz : h₅.objs.size = s.heap.objs.size := by rw [hs₅.1, hs₄.1, hs₃.1, hs₂.1, hs₁.1]
  have hz₅ : IsZ h₅ z TI TO .ellipsis false := hs₅.extBut _ _ D.TOz.symm (hs₄.extBut _ _ D.i2z.symm (hs₃.extBut _ _ D.TOz.symm (hs₂.extBut _ _ D.i1z.symm hz₁)))
  have hk₅ : ∀ c o, c ≠ z → c ≠ TO → c ≠ i1 → c ≠ i2 → s.heap.get? c = some o → h₅.get? c = some o := fun c o c1 c2 c3 c4 e =>
    hs₅.extBut _ _ c2 (hs₄.extBut _ _ c4 (hs₃.extBut _ _ c2 (hs₂.extBut _ _ c3 (hs₁.extBut _ _ c1 e))))
  have h1₅ : h₅.IsListIter i1 l (k + 1) := ((h1₂.extBut hs₃.extBut D.TOi1.symm).extBut hs₄.extBut D.i12).extBut hs₅.extBut D.TOi1.symm
  have h2₅ : h₅.IsListIter i2 m (k + 1) := h2₄.extBut hs₅.extBut D.TOi2.symm
  have hzlt : z < h₅.objs.size := Heap.lt_size hz₅
  show wpAny _ _ (Builtin.SmallTypes.ownedTupleHandOut (.ref z) (.ref h₅.objs.size) >>= _) _ _ _
  refine wpAny_bind ?_
  unfold Builtin.SmallTypes.ownedTupleHandOut
  have hz₆ : IsZ (h₅.push { cls := .type "tuple", data := .seq #[v, u] }) z TI TO .ellipsis false := Heap.get?_push_of_some _ hz₅
  refine wpAny_bind (wpAny_setField_rec hz₆ (by simp) fun h₇ hz₇ hs₇ => ?_)
  replace hz₇ : IsZ h₇ z TI TO (rawInt h₅.objs.size) false := hz₇
  refine wpAny_setField_rec hz₇ (by simp) fun h₈ hz₈ hs₈ => ?_
  replace hz₈ : IsZ h₈ z TI TO (rawInt h₅.objs.size) false := hz₈
  have up : ∀ c o, c ≠ z → h₅.get? c = some o → h₈.get? c = some o := fun c o c1 e => hs₈.extBut _ _ c1 (hs₇.extBut _ _ c1 (Heap.get?_push_of_some _ e))
  have hT₈ : IsPair h₈ h₅.objs.size v u := hs₈.extBut _ _ (Nat.ne_of_gt hzlt) (hs₇.extBut _ _ (Nat.ne_of_gt hzlt) (Heap.get?_push_size _ rfl))
  have hz8 : h₈.objs.size = h₅.objs.size + 1 := by rw [hs₈.1, hs₇.1, Heap.size_push]
  rw [hsz] at hz₈ hT₈ hz8
  refine wpAny_pure ⟨_, rfl, wpAny_pure ?_⟩
  show Q (some (.ref h₅.objs.size)) _
  rw [hsz]
  exact hQ h₈ hz₈ ⟨_, _, up _ _ D.TOz hTO₅⟩ (h1₅.at fun o e => up _ o D.i1z e) (h2₅.at fun o e => up _ o D.i2z e) hT₈ hz8 fun c o c1 c2 c3 c4 e => up c o c1 (hk₅ c o c1 c2 c3 c4 e)
abbrev zH1 (h : Heap) (l : Addr) : Heap := h.push { cls := .type "list_iterator", data := .fields #[.ref l, .int 0 0] }
abbrev zH2 (h : Heap) (l m : Addr) : Heap := (zH1 h l).push { cls := .type "list_iterator", data := .fields #[.ref m, .int 0 0] }
abbrev zH3 (h : Heap) (l m : Addr) : Heap := (zH2 h l m).push { cls := .type "tuple", data := .seq #[.ref h.objs.size, .ref (zH1 h l).objs.size] }
abbrev zH4 (h : Heap) (l m : Addr) : Heap := (zH3 h l m).push { cls := .type "tuple", data := .seq #[.none, .none] }
abbrev zH5 (h : Heap) (l m : Addr) : Heap := (zH4 h l m).push { cls := .type "zip", data := .fields #[.none, .bool false, .bool false, .ref (zH2 h l m).objs.size, .ref (zH3 h l m).objs.size] }
theorem meets_new (l m : Addr) (xs ys : Array Value) :
    Meets (Builtin.«zip.__new__» ⟨[.type "zip", .ref l, .ref m], []⟩) (fun _ R s => s.heap.IsList l xs ∧ s.heap.IsList m ys ∧ R (.ok (.ret (.ref (zH4 s.heap l m).objs.size))) { s with heap := zH5 s.heap l m }) :=
  .of_wp fun prog w A R s h => by
    obtain ⟨hp, g, d, tk, os⟩ := s; obtain ⟨hl1, hl2, h⟩ := h
    have hsub := sub_zip
    have hL1 : Heap.IsList (Shared.heap ⟨hp, g, d, tk, os⟩) l xs := hl1
    have hL2 : Heap.IsList (Shared.heap ⟨hp.push { cls := .type "list_iterator", data := .fields #[.ref l, .int 0 0] }, g, d, tk, os⟩) m ys := hl2.push _
    wp_walk using wpAny_pyIter_list hL1, wpAny_pyIter_list hL2
    exact ⟨_, rfl, h⟩
theorem call_zip {l m : Addr} {xs ys : Array Value} {Q : Value → Shared → Prop} (hl1 : s.heap.IsList l xs) (hl2 : s.heap.IsList m ys)
    (h : ∀ h', IsZ h' (s.heap.objs.size + 4) (s.heap.objs.size + 2) (s.heap.objs.size + 3) .none false → IsPair h' (s.heap.objs.size + 2) (.ref s.heap.objs.size) (.ref (s.heap.objs.size + 1)) →
      IsPair h' (s.heap.objs.size + 3) .none .none → h'.IsListIter s.heap.objs.size l 0 → h'.IsListIter (s.heap.objs.size + 1) m 0 → h'.objs.size = s.heap.objs.size + 5 →
      (∀ c o, s.heap.get? c = some o → h'.get? c = some o) → Q (.ref (s.heap.objs.size + 4)) { s with heap := h' }) :
    wpAny (model prog w) A (call (.type "zip") [.ref l, .ref m]) Q E s := by
  refine callType_new F.called_zip (by decide) (F.typeCall_zip_2 _ _) (F.newCall_zip_2 _ _) (fun obj => F.args_object_init_3 obj _ _) F.entry_zip_new (meets_new l m xs ys) ⟨hl1, hl2, ?_⟩
  have z1 : (zH1 s.heap l).objs.size = s.heap.objs.size + 1 := Heap.size_push ..
  have z2 : (zH2 s.heap l m).objs.size = s.heap.objs.size + 2 := by rw [Heap.size_push, z1]
  have z3 : (zH3 s.heap l m).objs.size = s.heap.objs.size + 3 := by rw [Heap.size_push, z2]
  have z4 : (zH4 s.heap l m).objs.size = s.heap.objs.size + 4 := by rw [Heap.size_push, z3]
  have z5 : (zH5 s.heap l m).objs.size = s.heap.objs.size + 5 := by rw [Heap.size_push, z4]
  have g5 : (zH5 s.heap l m).get? (zH4 s.heap l m).objs.size = some _ := Heap.get?_push_size _ rfl
  have g4 : (zH5 s.heap l m).get? (zH3 s.heap l m).objs.size = some _ := Heap.get?_push_of_some _ (Heap.get?_push_size _ rfl)
  have g3 : (zH5 s.heap l m).get? (zH2 s.heap l m).objs.size = some _ := Heap.get?_push_of_some _ (Heap.get?_push_of_some _ (Heap.get?_push_size _ rfl))
  have g2 : (zH5 s.heap l m).get? (zH1 s.heap l).objs.size = some _ := Heap.get?_push_of_some _ (Heap.get?_push_of_some _ (Heap.get?_push_of_some _ (Heap.get?_push_size _ rfl)))
  have g1 : (zH5 s.heap l m).get? s.heap.objs.size = some _ := Heap.get?_push_of_some _ (Heap.get?_push_of_some _ (Heap.get?_push_of_some _ (Heap.get?_push_of_some _ (Heap.get?_push_size _ rfl))))
  show _ ∧ _
  rw [z2, z3, z4] at g5
  rw [z1, z2] at g3
  rw [z3] at g4
  rw [z1] at g2
  rw [z4]
  exact ⟨⟨_, g5, rfl⟩, h _ g5 g3 g4 ⟨_, g1, rfl, rfl⟩ ⟨_, g2, rfl, rfl⟩ z5 fun c o x =>
    Heap.get?_push_of_some _ (Heap.get?_push_of_some _ (Heap.get?_push_of_some _ (Heap.get?_push_of_some _ (Heap.get?_push_of_some _ x))))⟩

end
structure ApartM (z TI TO i1 i2 l m d : Addr) : Prop extends ApartD z TI TO i1 i2 l d where
  mz : m ≠ z
  mTO : m ≠ TO
  mi1 : m ≠ i1
  mi2 : m ≠ i2
  dm : d ≠ m
structure ZS (h : Heap) (z TI TO i1 i2 l d : Addr) (m : Addr) (xs ys : Array Value) (k : Nat) : Prop where
  zf : (IsZ h z TI TO .none false ∧ ∃ a b, IsPair h TO a b) ∨ ∃ (T : Addr) (f1 : Bool) (oT : Obj), IsZ h z TI TO (rawInt (T : Nat)) f1 ∧ h.get? T = some oT ∧ T ≠ z ∧ T ≠ i1 ∧ T ≠ i2 ∧ T ≠ d
  ti : IsPair h TI (.ref i1) (.ref i2)
  a1 : h.IsListIter i1 l k
  a2 : h.IsListIter i2 m k
  li : h.IsList l xs
  mi : h.IsList m ys
section
variable {prog : Program} {w : World} {K : Type} [DecidableEq K] {knd : KeyKind prog w K} {A : Around} {R : Result → Shared → Prop}
theorem ZS.dict {h h' : Heap} {z TI TO i1 i2 l d : Addr} {m : Addr} {xs ys : Array Value} {k : Nat} (D : ApartM z TI TO i1 i2 l m d) (Z : ZS h z TI TO i1 i2 l d m xs ys k) (hs : Heap.SameBut d h h') : ZS h' z TI TO i1 i2 l d m xs ys k := by
  refine ⟨?_, hs.extBut _ _ D.dTI.symm Z.ti, Z.a1.extBut hs.extBut D.di1.symm, Z.a2.extBut hs.extBut D.di2.symm, Z.li.extBut hs.extBut D.dl.symm, Z.mi.extBut hs.extBut D.dm.symm⟩
  rcases Z.zf with ⟨hz, a, b, hTO⟩ | ⟨T, f1, oT, hz, hT, n1, n2, n3, n4⟩
  · exact .inl ⟨hs.extBut _ _ D.dz.symm hz, a, b, hs.extBut _ _ D.dTO.symm hTO⟩
  · exact .inr ⟨T, f1, oT, hs.extBut _ _ D.dz.symm hz, hs.extBut _ _ n4 hT, n1, n2, n3, n4⟩
end
end LY
set_option Elab.async false
set_option linter.all false
set_option maxRecDepth 100000
set_option maxHeartbeats 4000000
namespace L2
open PySem PySem.Spec PyProof.Rows
noncomputable def Itzl (K : PySem.W.Frag) (a b : Addr) : It :=
  ⟨fun i H => (∃ xs x, SqL K H a xs ∧ xs[i]? = some x) ∧ ∃ ys y, SqL K H b ys ∧ ys[i]? = some y, fun i H x H' => ∃ T v u, H T = none ∧ x = .ref T ∧ H' = upd H T (.tup [v, u]) ∧ (∀ xs, SqL K H a xs → xs[i]? = some v) ∧ ∀ ys, SqL K H b ys → ys[i]? = some u, fun i H => ∃ xs, SqL K H a xs ∧ xs.length ≤ i⟩
theorem turn_zipL {P : Program} {w : World} {K : PySem.W.Frag} {elts : List Expr} {k : Nat} {pos : Pos} (a bb z TI TO i1 i2 : Addr) (D : LZ.Apart5 z TI TO i1 i2 a) (mz : bb ≠ z) (mTO : bb ≠ TO) (mi1 : bb ≠ i1) (mi2 : bb ≠ i2) :
    Turn P w K (.Tuple elts k pos) (Itzl K a bb) [z, TI, TO, i1, i2] z (fun i h => LZ.IsZ h z TI TO .none false ∧ IsPair h TI (.ref i1) (.ref i2) ∧ (∃ u v, IsPair h TO u v) ∧ h.IsListIter i1 a i ∧ h.IsListIter i2 bb i) where
  mem := by simp
  obj := fun i h st b hb => by
    obtain ⟨hz, hTI, ⟨u, v, hTO⟩, ⟨o1, g1, _, d1⟩, ⟨o2, g2, _, d2⟩⟩ := st
    simp only [List.mem_cons, List.not_mem_nil, or_false] at hb
    rcases hb with rfl | rfl | rfl | rfl | rfl
    · exact ⟨_, hz, fun v q => by have q' : Data.fields _ = Data.cell v := q; cases q'⟩
    · exact ⟨_, hTI, fun v q => by have q' : Data.seq _ _ = Data.cell v := q; cases q'⟩
    · exact ⟨_, hTO, fun v q => by have q' : Data.seq _ _ = Data.cell v := q; cases q'⟩
    · exact ⟨o1, g1, fun v q => by rw [d1] at q; cases q⟩
    · exact ⟨o2, g2, fun v q => by rw [d2] at q; cases q⟩
  keep := fun i h h' st kk => by
    obtain ⟨hz, hTI, ⟨u, v, hTO⟩, ⟨o1, g1, r1⟩, ⟨o2, g2, r2⟩⟩ := st
    exact ⟨kk z (by simp) _ hz, kk TI (by simp) _ hTI, ⟨u, v, kk TO (by simp) _ hTO⟩, ⟨o1, kk i1 (by simp) _ g1, r1⟩, ⟨o2, kk i2 (by simp) _ g2, r2⟩⟩
  item := by
    intro X hP hw hK hc i pins s σ H E I hf st hg
    subst hP hw hK
    obtain ⟨⟨xs, y, hq, hx⟩, ys, y2, hq2, hx2⟩ := hg
    obtain ⟨its, rv, p, hsz⟩ := I.list hq
    obtain ⟨u, hu, ru⟩ := rv.get hx
    obtain ⟨its2, rv2, p2, hsz2⟩ := I.list hq2
    obtain ⟨u2, hu2, ru2⟩ := rv2.get hx2
    obtain ⟨hz, hTI, ⟨a0, b0, hTO⟩, h1, h2⟩ := st
    refine LY.next_first D mz mTO mi1 mi2 hz hTI hTO h1 h2 p.isList p2.isList (v := u) (u := u2) (by simpa using hu) (by simpa using hu2) fun h' b1 b2 b3 b4 b5 b6 b7 => ⟨_, rfl, ?_⟩
    refine wpAny_letOwnedTupleGo_zip (T := s.heap.objs.size) b1 fun h2' c1 c2 => ?_
    have szT : ∀ c ∈ [z, TI, TO, i1, i2], c ≠ s.heap.objs.size := fun c hc => by
      have : ∃ o, s.heap.get? c = some o := by
        simp only [List.mem_cons, List.not_mem_nil, or_false] at hc
        obtain ⟨o1, g1, _⟩ := h1
        obtain ⟨o2, g2, _⟩ := h2
        rcases hc with rfl | rfl | rfl | rfl | rfl
        · exact ⟨_, hz⟩
        · exact ⟨_, hTI⟩
        · exact ⟨_, hTO⟩
        · exact ⟨_, g1⟩
        · exact ⟨_, g2⟩
      obtain ⟨o, e⟩ := this
      exact Nat.ne_of_lt (Heap.lt_size e)
    have zT : z ≠ s.heap.objs.size := szT z (by simp)
    have keep2 : ∀ b o, b ∉ [z, TI, TO, i1, i2] → s.heap.get? b = some o → h2'.get? b = some o := fun b o nb q => by
      simp only [List.mem_cons, List.not_mem_nil, or_false, not_or] at nb
      exact c2.extBut b o nb.1 (b7 b o nb.1 nb.2.2.1 nb.2.2.2.1 nb.2.2.2.2 q)
    have kp : ∀ {b o}, b ≠ z → h'.get? b = some o → h2'.get? b = some o := fun nb q => c2.extBut _ _ nb q
    have tup2 : h2'.get? s.heap.objs.size = some _ := kp (Ne.symm zT) b5
    have I2 : Inv X pins σ (upd H s.heap.objs.size (.tup [y, y2])) { s with heap := h2', toks := s.toks } :=
      I.turnedL (ch := [z, TI, TO, i1, i2]) keep2 hf (Nat.le_refl _) ⟨(by show 2 ≤ sizeLine; decide), [u, u2], .cons ru (.cons ru2 .nil), ⟨_, tup2, rfl, _, rfl⟩⟩
    obtain ⟨a1, b1', b2'⟩ := b2
    refine ⟨.ref s.heap.objs.size, _, I2, rfl, ⟨s.heap.objs.size, y, y2, I.hok.fresh (Nat.le_refl _), rfl, rfl, fun ys hy => by rw [I.list_inj hy hq]; exact hx, fun ys hy => by rw [I.list_inj hy hq2]; exact hx2⟩, ⟨c1, ?_, ⟨a1, b1', ?_⟩, ?_, ?_⟩, fun b hb => ?_⟩
    · exact kp D.TIz (b7 TI _ D.TIz D.TITO D.TIi1 D.TIi2 hTI)
    · exact kp D.TOz b2'
    · obtain ⟨o1, g1, r1⟩ := b3
      exact ⟨o1, kp D.i1z g1, r1⟩
    · obtain ⟨o2, g2, r2⟩ := b4
      exact ⟨o2, kp D.i2z g2, r2⟩
    · rw [upd_ne (szT b hb)]
      exact (hf b hb).1
  done := by
    intro X hP hw hK hc i pins s σ H E I hf st hg
    subst hP hw hK
    obtain ⟨xs, hq, hx⟩ := hg
    obtain ⟨its, rv, p, hsz⟩ := I.list hq
    obtain ⟨hz, hTI, hTO, h1, h2⟩ := st
    have hlen := rv.length
    refine LZ.next_end (a := .none) (b := .none) (I.ok.hd hc) D hz (.inl ⟨rfl, rfl, hTO⟩) hTI h1 p.isList (by simp; omega) fun h' eb => ⟨rfl, ?_⟩
    exact I.turnedE (t' := s.toks) (ch := [z, TI, TO, i1, i2]) (fun b o nb q => by
      simp only [List.mem_cons, List.not_mem_nil, or_false, not_or] at nb
      exact eb b o nb.1 nb.2.2.2.1 q) hf
  self := fun _ _ _ _ _ st h => wpAny_pyIter_zip st.1 h
section
variable {X : Cx} {elts : List Expr} {k : Nat} {tpos : Pos}
noncomputable def iZipL (K : PySem.W.Frag) (ta : TA) : TI := fun σ H R => ta σ H fun vs H1 => ∃ a b, vs = [.ref a, .ref b] ∧ (∃ xs, SqL K H1 a xs) ∧ (∃ ys, SqL K H1 b ys) ∧ R (Itzl K a b) H1
theorem pi_zipL {a b : Expr} {ta : TA} {p pos : Pos} (hg : Gl X "zip") (hm : X.mg "zip" = none) (ha : PA X [a, b] ta) (hs : starEach [a, b] X.env = [(false, eval a X.env), (false, eval b X.env)] := by rfl) (hs2 : starEach [b] X.env = [(false, eval b X.env)] := by rfl) : PI X (.Tuple elts k tpos) (.Call (.Name "zip" p) [a, b] [] pos) (iZipL X.K ta) := by
  intro pins s σ H R I h
  refine Call_ (ld_blt I hg hm boot_zip (PyProof.Rows.callWith_type1 (thn (ha pos pins s σ H _ I h) fun us s1 ⟨vs, H1, I1, r1, q1⟩ => ?_) (by rw [hs, hs2]) (by rw [hs2]; rfl)))
  obtain ⟨l, m, e, ⟨xs, hq⟩, ⟨ys, hq2⟩, q⟩ := q1
  subst e
  obtain ⟨u1, u2, eu, r3, r2⟩ := vals2 r1
  subst eu
  cases (show u1 = Value.ref l from r3)
  cases (show u2 = Value.ref m from r2)
  obtain ⟨its, rv, pl, hz⟩ := I1.list hq
  obtain ⟨its2, rv2, pl2, hz2⟩ := I1.list hq2
  refine LY.call_zip pl.isList pl2.isList fun h' b1 b2 b3 b4 b5 b6 b7 => ?_
  refine wpAny_pyIter_zip b1 ?_
  have I2 : Inv X pins σ H1 { s1 with heap := h' } := I1.kept (t' := s1.toks) b7
  have ll : @LT.lt Nat _ l s1.heap.objs.size := by obtain ⟨o, ho, _⟩ := pl.isList; exact Heap.lt_size ho
  have lm : @LT.lt Nat _ m s1.heap.objs.size := by obtain ⟨o, ho, _⟩ := pl2.isList; exact Heap.lt_size ho
  refine ⟨s1.heap.objs.size + 4, [s1.heap.objs.size + 4, s1.heap.objs.size + 2, s1.heap.objs.size + 3, s1.heap.objs.size, s1.heap.objs.size + 1], _, _, H1, rfl, I2, turn_zipL l m (s1.heap.objs.size + 4) (s1.heap.objs.size + 2) (s1.heap.objs.size + 3) s1.heap.objs.size (s1.heap.objs.size + 1) ?_ (by show @Ne Nat _ _; omega) (by show @Ne Nat _ _; omega) (by show @Ne Nat _ _; omega) (by show @Ne Nat _ _; omega), ⟨b1, b2, ⟨_, _, b3⟩, b4, b5⟩, fun b hb => ?_, q⟩
  · constructor <;> (show @Ne Nat _ _; omega)
  · have hle : s1.heap.objs.size ≤ b := by
      simp only [List.mem_cons, List.not_mem_nil, or_false] at hb
      rcases hb with rfl | rfl | rfl | rfl | rfl
      · exact Nat.le_add_right _ _
      · exact Nat.le_add_right _ _
      · exact Nat.le_add_right _ _
      · exact Nat.le_refl _
      · exact Nat.le_add_right _ _
    exact I1.fpOk hle (I1.hok.fresh hle)
theorem comp_zipL {K : PySem.W.Frag} {H1 : Hp} {D : Addr} {σ0 : St} {g : TG} {te : TE} {tt : TT} {QD : Hp → Prop} {a b : Addr} {xs us : List V} (hz : xs.length ≤ us.length) (Pv : Nat → Hp → List V → Prop) (h0 : Pv 0 (upd H1 D (.lst [])) []) (hD : ∀ i H ys, Pv i H ys → H D = some (.lst ys) ∧ SqL K H a xs ∧ SqL K H b us)
    (hs : ∀ i x u H ys T, xs[i]? = some x → us[i]? = some u → Pv i H ys → H T = none → g (.ref T) σ0 (upd H T (.tup [x, u])) fun σ2 H2 => wk σ0 σ2 ∧ tt σ2 H2 fun b H3 => if b = true then te σ2 H3 (NextC Pv xs.length D i ys) else ∃ m', m' < xs.length - i ∧ (m' = xs.length - (i + 1) ∧ i + 1 ≤ xs.length ∧ Pv (i + 1) H3 ys))
    (hd : ∀ H ys, Pv xs.length H ys → QD H) :
    ∃ W : Nat → Nat → Hp → List V → Prop, (∃ m, W 0 m (upd H1 D (.lst [])) []) ∧ ∀ i m H ys, W i m H ys → H D = some (.lst ys) ∧ (((Itzl K a b).stop i H ∧ QD H) ∨ ((Itzl K a b).go i H ∧ ∀ x H', (Itzl K a b).yld i H x H' → g x σ0 H' fun σ2 H2 => wk σ0 σ2 ∧ tt σ2 H2 fun b H3 =>
      if b = true then te σ2 H3 fun v H4 => H4 D = some (.lst ys) ∧ ys.length < sizeLine ∧ ∃ m', m' < m ∧ W (i + 1) m' (upd H4 D (.lst (ys ++ [v]))) (ys ++ [v]) else ∃ m', m' < m ∧ W (i + 1) m' H3 ys)) := by
  refine ⟨fun i m H ys => m = xs.length - i ∧ i ≤ xs.length ∧ Pv i H ys, ⟨_, rfl, Nat.zero_le _, h0⟩, ?_⟩
  rintro i m H ys ⟨rfl, hi, p⟩
  obtain ⟨h1, q, q2⟩ := hD i H ys p
  refine ⟨h1, ?_⟩
  by_cases hlt : i < xs.length
  · refine .inr ⟨⟨⟨xs, xs[i], q, by simp [hlt]⟩, us, us[i]'(by omega), q2, by rw [List.getElem?_eq_getElem]⟩, fun x H' y => ?_⟩
    obtain ⟨T, v, u, hT, ex, eH, y1, y2⟩ := y
    subst ex eH
    exact hs i v u H ys T (y1 xs q) (y2 us q2) p hT
  · have e : i = xs.length := by omega
    subst e
    exact .inl ⟨⟨xs, q, Nat.le_refl _⟩, hd H ys p⟩
end
section
variable {X : Cx}
noncomputable def tLRange (ta : TA) : TE := fun σ H Q => ta σ H fun vs H1 => ∃ (lo : Int) (n : Nat), vs = [.int lo, .int (lo + n)] ∧ -1000 ≤ lo ∧ lo ≤ 1000 ∧ n ≤ 1000 ∧ ∀ l, H1 l = none → Q (.ref l) (upd H1 l (.lst ((List.range n).map fun (i : Nat) => V.int (lo + (i : Int)))))
theorem pe_lrange {a b : Expr} {ta : TA} {p1 p2 pos1 pos2 : Pos} (hc : X.calm = true) (hg : Gl X "list") (hm : X.mg "list" = none) (hg2 : Gl X "range") (hm2 : X.mg "range" = none) (ha : PA X [a, b] ta)
    (hs : starEach [a, b] X.env = [(false, eval a X.env), (false, eval b X.env)] := by rfl) (hs2 : starEach [b] X.env = [(false, eval b X.env)] := by rfl)
    (hs0 : starEach [.Call (.Name "range" p2) [a, b] [] pos2] X.env = [(false, eval (.Call (.Name "range" p2) [a, b] [] pos2) X.env)] := by rfl) :
    PE X (.Call (.Name "list" p1) [.Call (.Name "range" p2) [a, b] [] pos2] [] pos1) (tLRange ta) := by
  intro pins s σ H Q I h
  refine Call_ (ld_blt I hg hm PyProof.Rows.boot_list (PyProof.Rows.callWith_type1 ?_ hs0 rfl))
  rw [hs0]
  show wpAny _ _ (spliced [(false, eval (.Call (.Name "range" p2) [a, b] [] pos2) X.env)]) _ _ s
  refine Calls.spliced_cons ?_
  refine Call_ (ld_blt I hg2 hm2 boot_range (PyProof.Rows.callWith_type1 (thn (ha pos2 pins s σ H _ I h) fun ws s1 ⟨vs, H1, I1, r1, q1⟩ => ?_) (by rw [hs, hs2]) (by rw [hs2]; rfl)))
  obtain ⟨lo, n, e, l1, l2, hn, q⟩ := q1
  subst e
  obtain ⟨u1, u2, e, ⟨t, ru1⟩, ⟨t', ru2⟩⟩ := vals2 r1
  subst e ru1 ru2
  refine call_range_2 ?_
  refine Calls.spliced_nil ?_
  have I2 : Inv X pins σ H1 { s1 with heap := s1.heap.push { cls := .type "range", data := .fields #[.int lo t, .int (lo + n) t', .int 1 s1.toks] }, toks := s1.toks + 1 } := I1.kept fun b o e => Heap.get?_push_of_some _ e
  have hr : IsRange (s1.heap.push { cls := .type "range", data := .fields #[.int lo t, .int (lo + n) t', .int 1 s1.toks] }) s1.heap.objs.size lo (lo + n) 1 t t' s1.toks := IsRange.new ..
  refine call_list_range (n := n) (I2.ok.hd hc) hr (small_one (by omega) (by omega) (by omega) (by omega)) (by rw [rangeSize_one]; split <;> omega) (by omega) fun h' tk acc' c' hk hS' hacc => ?_
  have r : Vals ((List.range n).map fun (i : Nat) => V.int (lo + (i : Int))) acc'.toList := by
    refine paired_get (by rw [List.length_map, List.length_range, Array.length_toList, hacc.1]) fun j x y e1 e2 => ?_
    obtain ⟨t2, e3⟩ := hacc.2 j y (by simpa using e2)
    rw [List.getElem?_map] at e1
    cases e4 : (List.range n)[j]? with
    | none => rw [e4] at e1; cases e1
    | some j' =>
      rw [e4] at e1
      cases e1
      have : j' = j := by
        have := List.getElem?_eq_some_iff.mp e4
        obtain ⟨h1, h2⟩ := this
        rw [List.getElem_range] at h2; exact h2.symm
      subst this
      exact ⟨t2, by rw [e3]; simp⟩
  have big : 1000 < sizeLine := by decide
  exact ⟨.ref _, _, I2.laid (t' := tk) hk (Nat.le_refl _) (show ObjOk X.prog X.w _ h' _ (.lst _) from ⟨by rw [List.length_map, List.length_range]; omega, acc'.toList, c', r, by simpa using hS'⟩), rfl, q _ (I2.hok.fresh (Nat.le_refl _))⟩
noncomputable def rIndexI : V → List V → Hp → VK → Prop := fun x vs H Q => ∃ (l : Addr) (xs : List Int) (y : Int) (j : Nat), x = .ref l ∧ vs = [.int y] ∧ H l = some (.lst (xs.map V.int)) ∧ xs[j]? = some y ∧ (∀ m, m < j → xs[m]? ≠ some y) ∧ xs.length ≤ 100000 ∧ Q (.int j) H
theorem ints_of : ∀ {xs : List Int} {its : List Value}, Vals (xs.map V.int) its → IntsAre its xs
  | [], _, h => by cases h; exact .nil
  | x :: xs, _, h => by
    cases h with
    | cons a r => obtain ⟨t, rfl⟩ := a; exact .cons _ _ (ints_of r)
theorem mt_indexI : MtR X "list.index" rIndexI := by
  intro pins s σ H x vs v us Q I rx rv h
  obtain ⟨l, xs, y, j, rfl, rfl, hH, hj, hno, hz, q⟩ := h
  cases rx
  obtain ⟨u, rfl, t, rfl⟩ := vals1 rv
  obtain ⟨z, its, n, r, hl, e⟩ := I.lstM hH
  have sa := ints_of r
  have hlen : its.length = xs.length := by rw [← hl, List.length_map]
  have hjl : j < xs.length := (List.getElem?_eq_some_iff.mp hj).1
  have at' : ∀ m (hm : m < its.toArray.size), isInt y its.toArray[m] = (xs[m]'(by rw [List.size_toArray] at hm; omega) == y) := fun m hm => by
    rw [List.size_toArray] at hm
    obtain ⟨u, hu, ru⟩ := r.get (i := m) (show (xs.map V.int)[m]? = some (.int (xs[m]'(by omega))) from by rw [List.getElem?_map, List.getElem?_eq_getElem (by omega)]; rfl)
    obtain ⟨tu, eu⟩ := ru
    subst eu
    have e2 : its.toArray[m] = .int (xs[m]'(by omega)) tu := by
      have := (List.getElem?_eq_some_iff.mp hu).2
      simpa using this
    rw [e2]
    rfl
  refine call_meets F.slot_list_index ⟨_, e, rfl⟩ F.entry_list_index (F.args_list_index_2 _ _) (MeetsSeq.list_index l its.toArray n (.int y t) (isInt y) (fun v hv => eq_isInt y t sa v (by simpa using hv)) j (by rw [List.size_toArray]; omega) (by omega) ?_ (fun m hm hmj => ?_)) ⟨e, ?_⟩
  · rw [at' j (by rw [List.size_toArray]; omega)]
    have := (List.getElem?_eq_some_iff.mp hj).2
    rw [this]
    simp
  · rw [at' m hm]
    rw [List.size_toArray] at hm
    have h1 := hno m hmj
    rw [List.getElem?_eq_getElem (by omega)] at h1
    simpa using h1
  · exact ⟨.int j, H, I.tok _, ⟨_, rfl⟩, q⟩
end
end L2
set_option Elab.async false
set_option linter.all false
set_option maxRecDepth 100000
set_option maxHeartbeats 4000000
namespace LZ
open PySem
section
variable {prog : Program} {w : World} {A : Around} {E : Value → Shared → Prop} {s : Shared}
end
section
variable {prog : Program} {w : World} {K : Type} [DecidableEq K] {knd : KeyKind prog w K} {A : Around} {R : Result → Shared → Prop}
noncomputable def PairsAt (h : Heap) (xs : Array Value) (ka va : Nat → Value) (it d : Addr) : Prop := ∀ k, k < xs.size → ∃ (T : Addr) (o : Obj) (n : Nat), xs[k]? = some (.ref T) ∧ h.get? T = some o ∧ o.cls = .type "tuple" ∧ o.data = .seq #[ka k, va k] n ∧ T ≠ it ∧ T ≠ d
theorem PairsAt.keep {h h' : Heap} {xs : Array Value} {ka va : Nat → Value} {it d : Addr} (p : PairsAt h xs ka va it d) (hk : ∀ c o, c ≠ it → c ≠ d → h.get? c = some o → h'.get? c = some o) : PairsAt h' xs ka va it d := fun k hlt =>
  let ⟨T, o, n, e1, e2, e3, e4, e5, e6⟩ := p k hlt; ⟨T, o, n, e1, hk T o e5 e6 e2, e3, e4, e5, e6⟩
end
end LZ
set_option Elab.async false
set_option linter.all false
set_option maxRecDepth 100000
set_option maxHeartbeats 4000000
namespace L2
open PySem PySem.Spec PyProof.Rows
section
variable {X : Cx} {a : Expr} {ta : TA} {p1 pos1 : Pos}
end
end L2
set_option Elab.async false
set_option linter.all false
set_option maxRecDepth 100000
set_option maxHeartbeats 4000000
namespace LS
open PySem PySem.Spec PyProof.Rows
noncomputable def met (g : Nat → Str) : Nat → List Str
  | 0 => []
  | i + 1 => if g i ∈ met g i then met g i else met g i ++ [g i]
theorem met_le (g : Nat → Str) : ∀ i, (met g i).length ≤ i
  | 0 => Nat.le_refl _
  | i + 1 => by
    have q := met_le g i
    show (if g i ∈ met g i then met g i else met g i ++ [g i]).length ≤ i + 1
    split
    · omega
    · simp; omega
theorem met_mem (g : Nat → Str) (x : Str) : ∀ i, x ∈ met g i ↔ ∃ j, j < i ∧ g j = x
  | 0 => by simp [met]
  | i + 1 => by
    have q := met_mem g x i
    have e : x ∈ met g (i + 1) ↔ x ∈ met g i ∨ x = g i := by
      show x ∈ (if g i ∈ met g i then met g i else met g i ++ [g i]) ↔ _
      by_cases h : g i ∈ met g i
      · rw [if_pos h]
        exact ⟨.inl, fun z => z.elim id fun z => z ▸ h⟩
      · rw [if_neg h]; simp
    rw [e, q]
    constructor
    · rintro (⟨j, a, b⟩ | a)
      · exact ⟨j, by omega, b⟩
      · exact ⟨i, by omega, a.symm⟩
    · rintro ⟨j, a, b⟩
      rcases Nat.lt_succ_iff_lt_or_eq.mp a with c | c
      · exact .inl ⟨j, c, b⟩
      · subst c; exact .inr b.symm
section
variable {prog : Program} {w : World} {A : Around} {R : Result → Shared → Prop} {I S : Addr} {fp wr : List Addr} {G : Array GenState → Array GenState → Prop} {n : Nat} {P : Nat → Value → Prop} {St : Nat → Shared → Prop}
abbrev IsSet (prog : Program) (w : World) (h : Heap) (S : Addr) (g : Nat → Str) (i : Nat) : Prop := h.SetOf (strKind prog w) S (fun x => decide (x ∈ met g i)) (met g i).length
theorem IsSet.at {h h' : Heap} {g : Nat → Str} {i : Nat} (q : IsSet prog w h S g i) (k : ∀ o, h.get? S = some o → h'.get? S = some o) : IsSet prog w h' S g i := by
  obtain ⟨o, es, ep, t, e, r⟩ := q
  exact ⟨o, es, ep, t, k _ e, r⟩
theorem set_loop (W : WalksS prog w A.in1 I fp wr G n P St) (nS : S ∉ fp) (g : Nat → Str) (hg : ∀ i v, P i v → ∃ t, v = .str (g i) t) (hb : n + 1 < scanBound) :
    ∀ (m i : Nat) (s : Shared), n - i = m → i ≤ n → St i s → IsSet prog w s.heap S g i → (∀ s', Moved (S :: wr) G s s' → IsSet prog w s'.heap S g n → R (.ok (.ret .none)) s') →
      codeAny (model prog w) A (.builtin "set.update.loop" ⟨[.ref S, .ref I], []⟩) R s := by
  have nW : S ∉ wr := fun z => nS (W.sub _ z)
  have more : ∀ b ∈ wr, b ∈ S :: wr := fun b z => List.mem_cons_of_mem _ z
  intro m
  induction m with
  | zero =>
    intro i s em hi st q fin
    obtain rfl : i = n := by omega
    refine codeAny_builtin F.entry_set_update_loop ?_
    rw [Around.under_plainId F.plain_set_update_loop _]
    show wpAny _ A.in1 (pyNext (.ref I) >>= _) _ _ s
    exact wpAny_bind (W.done s _ _ st fun s1 mv => wpAny_pure (fin s1 (mv.mono more) (q.at fun o e => mv.heap S _ nW e)))
  | succ m ih =>
    intro i s em hi st q fin
    have lt : i < n := by omega
    refine codeAny_builtin F.entry_set_update_loop ?_
    rw [Around.under_plainId F.plain_set_update_loop _]
    show wpAny _ A.in1 (pyNext (.ref I) >>= _) _ _ s
    refine wpAny_bind (W.item i s _ _ lt st fun v s1 hP st1 mv => ?_)
    obtain ⟨t, rfl⟩ := hg i v hP
    have q1 := q.at fun o e => mv.heap S _ nW e
    show wpAny _ A.in1 (holding [Value.str (g i) t] (setAdd S (.str (g i) t)) >>= _) _ _ s1
    refine wpAny_bind (wpAny_holding ?_)
    unfold setAdd
    refine wpAny_holding (wpAny_bind ((strKind prog w).pyHash (k := g i) (strKind_is _ _ _ _) ?_))
    have room : (met g i).length + 1 < scanBound := by have := met_le g i; omega
    refine wpAny_setAddHashed_of (knd := strKind prog w) (s := { s1 with toks := s1.toks + 1 }) (strKind_is _ _ _ _) rfl q1 room fun h2 sb q2 => ?_
    have q3 : IsSet prog w h2 S g (i + 1) := by
      refine SetOf_congr q2 (fun x => ?_) ?_
      · show (decide (x ∈ met g i) || decide (x = g i)) = decide (x ∈ (if g i ∈ met g i then met g i else met g i ++ [g i]))
        by_cases z : g i ∈ met g i
        · rw [if_pos z]
          by_cases y : x = g i
          · subst y; simp [z]
          · simp [y]
        · rw [if_neg z]; simp
      · show (if decide (g i ∈ met g i) = true then _ else _) = (if g i ∈ met g i then met g i else met g i ++ [g i]).length
        by_cases z : g i ∈ met g i
        · simp [z]
        · simp [z]
    refine wpAny_pure ⟨plainId_quiet F.plain_set_update_loop _, ih (i + 1) _ (by omega) lt (W.frame _ s1 _ _ st1 (Nat.le_succ _) fun b z o e => ?_) q3 fun s3 mv3 q4 => ?_⟩
    · rw [sb.2 b (fun y : b = S => nS (by rw [← y]; exact z))]; exact e
    · refine fin s3 (Moved.trans W.gtrans ((mv.mono more).then_heap (Nat.le_succ _) fun b o z e => ?_) mv3) q4
      rw [sb.2 b (fun y : b = S => z (by rw [y]; exact List.mem_cons_self))]; exact e
end
section
variable {prog : Program} {w : World} {A : Around} {E : Value → Shared → Prop} {s : Shared}
abbrev bare (led : Bool) : Obj := { cls := .type "set", dict := none, data := .set #[] 0 (.fresh 0 0 led) }
theorem call_set_txt {l : Addr} {its : Array Value} {g : Nat → Str} {Q : Value → Shared → Prop} (hh : A.handled = none) (hl : s.heap.IsList l its) (hi : ∀ (i : Nat) (v : Value), its[i]? = some v → ∃ t, v = .str (g i) t) (hb : its.size + 1 < scanBound)
    (h : ∀ (h1 : Heap) (tk : Nat), IsSet prog w h1 s.heap.objs.size g its.size → (∀ b o, s.heap.get? b = some o → h1.get? b = some o) → Q (.ref s.heap.objs.size) { s with heap := h1, toks := tk }) :
    wpAny (model prog w) A (call (.type "set") [.ref l]) Q E s := by
  obtain ⟨cl, tl, mro⟩ := F.called_set.mro
  have y1 := F.called_set.made
  have y2 := F.called_set.sub
  refine wpAny_call (codeAny_of_tree ?_)
  show wpAny _ _ (callAny (.type "set") ⟨[.ref l], []⟩) _ _ _
  refine wpAny_pure ⟨Code.quiet_builtin _ (by decide +kernel), codeAny_builtin F.entry_type_call ?_⟩
  rw [Around.under_plain (weight_type_call_type "set" [.ref l] []) rfl]
  have y3 := F.called_set.notType
  have y4 := F.called_set.canCreate
  have y5 := F.typeCall_set_1 (.ref l)
  repeat (any_goals (first | assumption | wp_step))
  refine codeAny_mono (code_set_new_1 (.ref l) (E := E) (Q₁ := fun v s1 => ∃ led : Bool, v = .ref s.heap.objs.size ∧ s1 = { s with heap := s.heap.push (bare led) }) fun led => ⟨led, rfl, rfl⟩) fun r s1 hr => ?_
  cases r with
  | error e => exact hr
  | ok fl =>
    cases fl with
    | ret obj =>
      obtain ⟨led, rfl, rfl⟩ := hr
      have hS : (s.heap.push (bare led)).get? s.heap.objs.size = some (bare led) := Heap.get?_push_size _ rfl
      have hT : Shared.TypeIs { s with heap := s.heap.push (bare led) } (.ref s.heap.objs.size) "set" := ⟨_, hS, rfl⟩
      have y6 := F.called_set.init.lookup
      have y7 := F.called_set.init.bind (.ref s.heap.objs.size)
      repeat (any_goals (first | assumption | wp_step))
      refine codeAny_mono (codeAny_call_builtin (R := wants (fun v s2 => v = .none ∧ ∃ h1 tk, s2 = { s with heap := h1, toks := tk } ∧ IsSet prog w h1 s.heap.objs.size g its.size ∧ ∀ b o, s.heap.get? b = some o → h1.get? b = some o) E) F.called_set.init.plain F.entry_set_init (check_set_init_1 hT ?_)) fun r2 s2 hr2 => ?_
      · obtain ⟨ol, hol, hcl, nl, hdl⟩ := hl
        obtain ⟨ocls, odict, odata, oslots⟩ := ol
        simp only at hcl hdl
        subst hcl; subst hdl
        have hol1 : (s.heap.push (bare led)).get? l = some { cls := .type "list", dict := odict, data := .seq its nl, slots := oslots } := Heap.get?_push_of_some _ hol
        have y8 := F.sub_list_set
        have y9 := F.sub_list_frozenset
        have y0 : (Value.type "list" == Value.type "dict") = false := by decide
        have hl1 : (s.heap.push (bare led)).IsList l its := ⟨_, hol1, rfl, nl, rfl⟩
        unfold Builtin.«set.__init__» noKeywords Builtin.Frozenset.updateFrom
        generalize hPI : pyIter = PI
        wp_walk
        subst hPI
        refine wpAny_pyIter_list hl1 ?_
        refine wpAny_bind (wpAny_runValue ?_)
        have lS : l < s.heap.objs.size := Heap.lt_size hol
        have nI : l ≠ (s.heap.push (bare led)).objs.size := by
          rw [Heap.size_push]; exact Nat.ne_of_lt (Nat.lt_succ_of_lt lS)
        have nF : s.heap.objs.size ∉ [(s.heap.push (bare led)).objs.size, l] := by
          rw [Heap.size_push]; simp only [List.mem_cons, List.mem_singleton, List.not_mem_nil, or_false, not_or]
          exact ⟨Nat.ne_of_lt (Nat.lt_succ_self _), Nat.ne_of_gt lS⟩
        refine set_loop ((Walks.list (show A.in1.in1.in1.handled = none by simp [hh]) _ l nI its).toS) nF g hi hb (its.size - 0) 0 _ (by omega) (Nat.zero_le _) ⟨⟨_, Heap.get?_push_size _ rfl, rfl, rfl⟩, (hl1.push _)⟩ ?_ fun s3 mv q => ?_
        · have e : ((s.heap.push (bare led)).push { cls := .type "list_iterator", data := .fields #[.ref l, .int 0 0] }).get? s.heap.objs.size = some (bare led) := Heap.get?_push_of_some _ hS
          exact SetOf_congr ((setObjOf_fresh (knd := strKind prog w) led).setOf e (by unfold scanBound; omega)) (fun _ => by simp [met]) rfl
        · obtain ⟨h3, g3, d3, tk3, os3⟩ := s3
          obtain rfl : g3 = s.gens := mv.gens
          obtain rfl : d3 = s.drawn := mv.drawn
          obtain rfl : os3 = s.os := mv.os
          show wpAny _ _ _ _ _ _
          refine wpAny_pure ?_
          show wpAny _ _ (ret Value.none) _ _ _
          refine wpAny_pure ⟨rfl, h3, tk3, rfl, q, fun b o e => ?_⟩
          have lb := Heap.lt_size e
          have z1 : b ≠ s.heap.objs.size := Nat.ne_of_lt lb
          have z2 : b ≠ (s.heap.push (bare led)).objs.size := by
            rw [Heap.size_push]; exact Nat.ne_of_lt (Nat.lt_succ_of_lt lb)
          exact mv.heap b o (by simp only [List.mem_cons, List.mem_singleton, List.not_mem_nil, or_false, not_or]; exact ⟨z1, z2⟩) (Heap.get?_push_of_some _ (Heap.get?_push_of_some _ e))
      · cases r2 with
        | error e => exact hr2
        | ok fl2 =>
          cases fl2 with
          | ret r =>
            obtain ⟨rfl, h1, tk, rfl, q, k⟩ := hr2
            repeat (any_goals (first | assumption | wp_step))
            exact h _ _ q k
          | _ => exact hr2.elim
    | _ => exact hr.elim
end
end LS
set_option Elab.async false
set_option linter.all false
set_option maxRecDepth 100000
set_option maxHeartbeats 4000000
namespace L2
open PySem PySem.Spec PyProof.Rows
noncomputable def uniq (ts : List Str) : Nat := (LS.met (fun i => ts.getD i Str.empty) ts.length).length
section
variable {X : Cx} {a : Expr} {ta : TA} {p p1 pos pos1 : Pos}
noncomputable def tLenSet (K : PySem.W.Frag) (ta : TA) : TE := fun σ H Q => ta σ H fun vs H1 => ∃ l ts, vs = [.ref l] ∧ SqL K H1 l (ts.map V.str) ∧ ts.length < 1000 ∧ Q (.int (uniq ts)) H1
theorem pe_lenset (hc : X.calm = true) (hg : Gl X "len") (hm : X.mg "len" = none) (hg1 : Gl X "set") (hm1 : X.mg "set" = none) (ha : PA X [a] ta) (hs : starEach [a] X.env = [(false, eval a X.env)] := by rfl)
    (he : starEach [.Call (.Name "set" p1) [a] [] pos1] X.env = [(false, eval (.Call (.Name "set" p1) [a] [] pos1) X.env)] := by rfl) :
    PE X (.Call (.Name "len" p) [.Call (.Name "set" p1) [a] [] pos1] [] pos) (tLenSet X.K ta) := by
  intro pins s σ H Q I h
  refine wpAny_Call_Name_kw (ld_blt I hg hm PySem.boot_len ?_)
  refine PyProof.Rows.callWith_builtin1 ?_ he rfl
  rw [he]
  show wpAny _ _ (spliced ((false, eval (.Call (.Name "set" p1) [a] [] pos1) X.env) :: backTo pos [])) _ _ s
  refine Calls.spliced_cons ?_
  refine Call_ (ld_blt I hg1 hm1 PyProof.Rows.boot_set (PyProof.Rows.callWith_type1 (thn (ha pos1 pins s σ H _ I h) fun us s1 z => ?_) hs rfl))
  obtain ⟨vs, H1, I1, r1, l, ts, e, hl, hsm, q⟩ := z
  subst e
  obtain ⟨u1, e, ru1⟩ := vals1 r1
  subst e
  cases ru1
  obtain ⟨its, rv, pl, _⟩ := I1.list hl
  have hlen : its.length = ts.length := by rw [← rv.length, List.length_map]
  refine LS.call_set_txt (its := its.toArray) (g := fun i => ts.getD i Str.empty) (I1.ok.hd hc) pl.isList (fun i v hv => ?_) (by rw [List.size_toArray, hlen]; unfold scanBound; omega) fun h3 tk q3 kept => ?_
  · have hv' : its[i]? = some v := by simpa using hv
    have hi : i < ts.length := by
      have := (List.getElem?_eq_some_iff.mp hv').1
      omega
    have e1 : (ts.map V.str)[i]? = some (.str (ts.getD i Str.empty)) := by
      rw [List.getElem?_map, List.getElem?_eq_getElem hi, List.getD_eq_getElem?_getD, List.getElem?_eq_getElem hi]; rfl
    obtain ⟨u, hu, ru⟩ := rv.get e1
    rw [hv'] at hu
    cases hu
    obtain ⟨t, e2⟩ := ru
    exact ⟨t, e2⟩
  · refine Calls.spliced_nil ?_
    have hz : its.toArray.size = ts.length := by rw [List.size_toArray]; exact hlen
    rw [hz] at q3
    obtain ⟨o, es, ep, t, ho, hex, hd, _, _, _, hf, hn⟩ := q3
    have hle := LS.met_le (fun i => ts.getD i Str.empty) ts.length
    refine PySem.call_len_set ho hex hd hf (by rw [hn]; omega) ?_
    exact ⟨.int (uniq ts), H1, I1.kept (t' := tk + 1 + 1) kept, ⟨tk + 1, by rw [hn]; rfl⟩, q⟩
end
end L2
namespace LS
open PySem
theorem met_full (g : Nat → Str) : ∀ n, (met g n).length = n ↔ ∀ i j, i < n → j < n → g i = g j → i = j
  | 0 => ⟨fun _ i j h => absurd h (Nat.not_lt_zero _), fun _ => rfl⟩
  | n + 1 => by
    have ih := met_full g n
    have le := met_le g n
    have e : (met g (n + 1)).length = if g n ∈ met g n then (met g n).length else (met g n).length + 1 := by
      show (if g n ∈ met g n then met g n else met g n ++ [g n]).length = _
      split <;> simp
    constructor
    · intro h
      rw [e] at h
      have ni : g n ∉ met g n := fun z => by rw [if_pos z] at h; omega
      rw [if_neg ni] at h
      have old := ih.mp (by omega)
      have no : ∀ j, j < n → g j ≠ g n := fun j hj z => ni ((met_mem g _ n).mpr ⟨j, hj, z⟩)
      intro i j hi hj hg
      rcases Nat.lt_succ_iff_lt_or_eq.mp hi with a | a <;> rcases Nat.lt_succ_iff_lt_or_eq.mp hj with b | b
      · exact old i j a b hg
      · subst b; exact absurd hg (no i a)
      · subst a; exact absurd hg.symm (no j b)
      · omega
    · intro h
      have old := ih.mpr fun i j a b => h i j (by omega) (by omega)
      have ni : g n ∉ met g n := fun z => by
        obtain ⟨j, hj, q⟩ := (met_mem g _ n).mp z
        have := h j n (by omega) (by omega) q
        omega
      rw [e, if_neg ni]
      omega
end LS
namespace L2
open PySem
theorem uniq_all {ts : List Str} : uniq ts = ts.length ↔ ts.Nodup := by
  unfold uniq List.Nodup
  rw [LS.met_full, List.pairwise_iff_getElem]
  have at_ : ∀ (i : Nat) (hi : i < ts.length), ts.getD i Str.empty = ts[i] := fun i hi => by rw [List.getD_eq_getElem?_getD, List.getElem?_eq_getElem hi]; rfl
  constructor
  · intro h i j hi hj hij hq
    have := h i j hi hj (by rw [at_ i hi, at_ j hj, hq])
    omega
  · intro h i j hi hj hg
    rw [at_ i hi, at_ j hj] at hg
    by_cases a : i < j
    · exact absurd hg (h i j hi hj a)
    · by_cases b : j < i
      · exact absurd hg.symm (h j i hj hi b)
      · omega
end L2
set_option Elab.async false
set_option linter.all false
namespace L2
open PySem PySem.Spec PyProof.Rows
section
variable {K : PySem.W.Frag} {g : TG} {te : TE} {σ0 : St} {QD : Hp → Prop} {H1 : Hp} {D : Addr}
theorem comp_tup {a : Addr} {xs : List V} (Pv : Nat → Hp → List V → Prop) (h0 : Pv 0 (upd H1 D (.lst [])) []) (hD : ∀ i H ys, Pv i H ys → H D = some (.lst ys) ∧ SqT K H a xs)
    (hs : ∀ i x H ys, xs[i]? = some x → Pv i H ys → g x σ0 H fun σ2 H2 => wk σ0 σ2 ∧ tYes σ2 H2 fun b H3 => if b = true then te σ2 H3 (NextC Pv xs.length D i ys) else ∃ m', m' < xs.length - i ∧ (m' = xs.length - (i + 1) ∧ i + 1 ≤ xs.length ∧ Pv (i + 1) H3 ys)) (hd : ∀ H ys, Pv xs.length H ys → QD H) :
    ∃ W : Nat → Nat → Hp → List V → Prop, (∃ m, W 0 m (upd H1 D (.lst [])) []) ∧ ∀ i m H ys, W i m H ys → H D = some (.lst ys) ∧ (((Itt K a).stop i H ∧ QD H) ∨ ((Itt K a).go i H ∧ ∀ x H', (Itt K a).yld i H x H' → g x σ0 H' fun σ2 H2 => wk σ0 σ2 ∧ tYes σ2 H2 fun b H3 =>
      if b = true then te σ2 H3 fun v H4 => H4 D = some (.lst ys) ∧ ys.length < sizeLine ∧ ∃ m', m' < m ∧ W (i + 1) m' (upd H4 D (.lst (ys ++ [v]))) (ys ++ [v]) else ∃ m', m' < m ∧ W (i + 1) m' H3 ys)) := by
  refine ⟨fun i m H ys => m = xs.length - i ∧ i ≤ xs.length ∧ Pv i H ys, ⟨xs.length, by simp, Nat.zero_le _, h0⟩, ?_⟩
  rintro i m H ys ⟨rfl, hi, p⟩
  obtain ⟨d1, d2⟩ := hD i H ys p
  refine ⟨d1, ?_⟩
  by_cases hlt : i < xs.length
  · refine .inr ⟨⟨xs, xs[i], d2, by simp [hlt]⟩, fun x H' y => ?_⟩
    obtain ⟨e, y⟩ := y
    subst e
    exact hs i x _ ys (y xs d2) p
  · have e : i = xs.length := by omega
    subst e
    exact .inl ⟨⟨xs, d2, Nat.le_refl _⟩, hd H ys p⟩
theorem s_tup {σ : St} {H : Hp} {tl : TE} {R : It → Hp → Prop} (q : tl σ H fun x H1 => ∃ a, x = .ref a ∧ (∃ xs, SqT K H1 a xs) ∧ R (Itt K a) H1) : iTup K tl σ H R := q
end
end L2
set_option Elab.async false
set_option linter.all false
set_option maxRecDepth 100000
set_option maxHeartbeats 4000000
namespace L2
open PySem PySem.Spec PyProof.Rows
theorem comp_rangeF {H1 : Hp} {D : Addr} {σ0 : St} {g : TG} {te : TE} {tt : TT} {QD : Hp → Prop} {lo : Int} {n : Nat} (Pv : Nat → Hp → List V → Prop) (h0 : Pv 0 (upd H1 D (.lst [])) []) (hD : ∀ i H ys, Pv i H ys → H D = some (.lst ys))
    (hs : ∀ i H ys, i < n → Pv i H ys → g (.int (lo + i)) σ0 H fun σ2 H2 => wk σ0 σ2 ∧ tt σ2 H2 fun b H3 => if b = true then te σ2 H3 (NextC Pv n D i ys) else ∃ m', m' < n - i ∧ (m' = n - (i + 1) ∧ i + 1 ≤ n ∧ Pv (i + 1) H3 ys)) (hd : ∀ H ys, Pv n H ys → QD H) :
    ∃ W : Nat → Nat → Hp → List V → Prop, (∃ m, W 0 m (upd H1 D (.lst [])) []) ∧ ∀ i m H ys, W i m H ys → H D = some (.lst ys) ∧ (((Itr lo n).stop i H ∧ QD H) ∨ ((Itr lo n).go i H ∧ ∀ x H', (Itr lo n).yld i H x H' → g x σ0 H' fun σ2 H2 => wk σ0 σ2 ∧ tt σ2 H2 fun b H3 =>
      if b = true then te σ2 H3 fun v H4 => H4 D = some (.lst ys) ∧ ys.length < sizeLine ∧ ∃ m', m' < m ∧ W (i + 1) m' (upd H4 D (.lst (ys ++ [v]))) (ys ++ [v]) else ∃ m', m' < m ∧ W (i + 1) m' H3 ys)) := by
  refine ⟨fun i m H ys => m = n - i ∧ i ≤ n ∧ Pv i H ys, ⟨n, by simp, Nat.zero_le _, h0⟩, ?_⟩
  rintro i m H ys ⟨rfl, hi, p⟩
  refine ⟨hD i H ys p, ?_⟩
  by_cases hlt : i < n
  · refine .inr ⟨hlt, fun x H' y => ?_⟩
    obtain ⟨e, y⟩ := y
    subst e y
    exact hs i _ ys hlt p
  · have e : i = n := by omega
    subst e
    exact .inl ⟨Nat.le_refl _, hd H ys p⟩
theorem comp_listF {K : PySem.W.Frag} {H1 : Hp} {D : Addr} {σ0 : St} {g : TG} {te : TE} {tt : TT} {QD : Hp → Prop} {a : Addr} {xs : List V} (Pv : Nat → Hp → List V → Prop) (h0 : Pv 0 (upd H1 D (.lst [])) []) (hD : ∀ i H ys, Pv i H ys → H D = some (.lst ys) ∧ SqL K H a xs)
    (hs : ∀ i x H ys, xs[i]? = some x → Pv i H ys → g x σ0 H fun σ2 H2 => wk σ0 σ2 ∧ tt σ2 H2 fun b H3 => if b = true then te σ2 H3 (NextC Pv xs.length D i ys) else ∃ m', m' < xs.length - i ∧ (m' = xs.length - (i + 1) ∧ i + 1 ≤ xs.length ∧ Pv (i + 1) H3 ys)) (hd : ∀ H ys, Pv xs.length H ys → QD H) :
    ∃ W : Nat → Nat → Hp → List V → Prop, (∃ m, W 0 m (upd H1 D (.lst [])) []) ∧ ∀ i m H ys, W i m H ys → H D = some (.lst ys) ∧ (((Itl K a).stop i H ∧ QD H) ∨ ((Itl K a).go i H ∧ ∀ x H', (Itl K a).yld i H x H' → g x σ0 H' fun σ2 H2 => wk σ0 σ2 ∧ tt σ2 H2 fun b H3 =>
      if b = true then te σ2 H3 fun v H4 => H4 D = some (.lst ys) ∧ ys.length < sizeLine ∧ ∃ m', m' < m ∧ W (i + 1) m' (upd H4 D (.lst (ys ++ [v]))) (ys ++ [v]) else ∃ m', m' < m ∧ W (i + 1) m' H3 ys)) := by
  refine ⟨fun i m H ys => m = xs.length - i ∧ i ≤ xs.length ∧ Pv i H ys, ⟨xs.length, by simp, Nat.zero_le _, h0⟩, ?_⟩
  rintro i m H ys ⟨rfl, hi, p⟩
  obtain ⟨d1, d2⟩ := hD i H ys p
  refine ⟨d1, ?_⟩
  by_cases hlt : i < xs.length
  · refine .inr ⟨⟨xs, xs[i], d2, by simp [hlt]⟩, fun x H' y => ?_⟩
    obtain ⟨e, y⟩ := y
    subst e
    exact hs i x _ ys (y xs d2) p
  · have e : i = xs.length := by omega
    subst e
    exact .inl ⟨⟨xs, d2, Nat.le_refl _⟩, hd H ys p⟩
theorem cut_from {xs : List V} {a : Nat} (h : a ≤ xs.length) : cutV xs (some (a : Int)) none = xs.drop a := by
  unfold cutV
  rw [HT.sIx_nat, HT.sIx_none, Nat.min_eq_left h, List.take_of_length_le (by rw [List.length_drop]; omega)]
theorem cut_to {xs : List V} {a : Nat} (h : a ≤ xs.length) : cutV xs none (some (a : Int)) = xs.take a := by
  unfold cutV
  rw [HT.sIx_nat, HT.sIx_none, Nat.min_eq_left h]
  simp
end L2
set_option Elab.async false
set_option linter.all false
set_option maxRecDepth 100000
set_option maxHeartbeats 4000000
namespace L2
open PySem PySem.Spec PyProof.Rows
theorem eqV_self {x : V} (h : flatV x = true) : eqV x x = true := by
  cases x <;> first | (simp [eqV]; done) | (simp [flatV] at h; done) | simp_all [eqV, flatV]
theorem all_tt (n : Nat) : ((List.range n).all fun _ => true) = true := List.all_eq_true.mpr fun _ _ => rfl
section
variable {K : PySem.W.Frag} {H : Hp} {Q : VK}
theorem eqd_flat {n : Nat} {x : V} (h : flatV x = true) : EqD K H n x x true := by
  have q := EqD.flat (K := K) (H := H) (n := n) h h
  rwa [eqV_self h] at q
theorem eqd_flats {n : Nat} {xs : List V} (f : xs.all flatV = true) : ∀ (j : Nat) x y, xs[j]? = some x → xs[j]? = some y → EqD K H n x y true := fun j x y e1 e2 => by
  rw [e1] at e2
  cases e2
  exact eqd_flat (List.all_eq_true.mp f x (List.mem_of_getElem? e1))
theorem i_neL {a b : Addr} {xs ys : List V} (h1 : SqL K H a xs) (h2 : SqL K H b ys) (hl : xs.length = ys.length) (hi : ∀ (j : Nat) x y, xs[j]? = some x → ys[j]? = some y → EqD K H 8 x y true) (q : Q (.bl false) H) : rEqL K true (.ref a) (.ref b) H Q := by
  refine ⟨a, b, xs, ys, fun _ => true, rfl, rfl, h1, h2, hi, ?_⟩
  rw [all_tt, hl, beq_self_eq_true]; exact q
end
end L2
set_option Elab.async false
set_option linter.all false
set_option maxRecDepth 100000
set_option maxHeartbeats 4000000
namespace K2
open PySem L2
theorem ix_tupK {X : Cx} {K : PySem.W.Frag} (h : X.K = K) : IxR X (rIxT K) := by subst h; exact ix_tup
theorem i_dsetd {td ty tx : TE} {σ : St} {H : Hp} {Q : VK} (q : td σ H fun x H1 => ∃ a, x = .ref a ∧ IsD H1 a ∧ ty σ H1 fun y H2 => tx σ H2 fun z H3 => ∃ kvs k, H3 a = some (.dK kvs) ∧ y = kV k ∧ (∀ v, valV kvs k = some v → Q v H3) ∧ (valV kvs k = none → kvs.length < sizeLine ∧ Q z (upd H3 a (.dK (putK kvs k z))))) : tDSetd td ty tx σ H Q := q
theorem s_dput {td ty tv : TE} {D : Ends} {σ : St} {H : Hp} (q : tv σ H fun v H1 => td σ H1 fun x H2 => ty σ H2 fun y H3 => ∃ a H4, x = .ref a ∧ DPut H3 a y v H4 ∧ D.nx σ H4) : sDPut td ty tv D σ H := q
theorem i_dnotin {td ty : TE} {σ : St} {H : Hp} {Q : VK} (q : ty σ H fun y H1 => td σ H1 fun x H2 => ∃ a o, x = .ref a ∧ DGet H2 a y o ∧ Q (.bl (!o.isSome)) H2) : tDNotIn ty td σ H Q := q
theorem i_dget1 {td ty : TE} {σ : St} {H : Hp} {Q : VK} (q : td σ H fun x H1 => ∃ a, x = .ref a ∧ IsD H1 a ∧ ty σ H1 fun y H2 => ∃ o, DGet H2 a y o ∧ Q (o.getD .non) H2) : tDGet1 td ty σ H Q := q
theorem s_frz {t : TS} {D : Ends} {σ : St} {H : Hp} {a : Addr} {u : HO} (r : Rd H a u) (f : Fz u) (q : ∀ o, t (thawD D H a o u) σ (upd H a (.frz o u))) : tFrz t D σ H := ⟨a, u, r, f, q⟩
theorem s_dictF {tl : TE} {σ : St} {H : Hp} {R : It → Hp → Prop} (q : tl σ H fun x H1 => ∃ a o kvs, x = .ref a ∧ H1 a = some (.frz o (.dK kvs)) ∧ R (Itd a o kvs) H1) : iDictF tl σ H R := q
theorem ix_listK {X : Cx} {K : PySem.W.Frag} (h : X.K = K) : IxR X (rIxL K) := by subst h; exact ix_list
noncomputable def top (i : Nat) : Stmt := PySem.Challenge.pw_anydelay_k31_whole_sheets_otherwise.main.body.getD i (.Pass ⟨0, 0, 0, 0⟩)
structure Txt (K : PySem.W.Frag) (mg : Str → Option Value) (TT : Addr) : Prop where
  n_len : mg "len" = none
  n_range : mg "range" = none
  n_max : mg "max" = none
  n_min : mg "min" = none
  n_int : mg "int" = none
  n_list : mg "list" = none
  n_str : mg "str" = none
  n_isinstance : mg "isinstance" = none
  n_all : mg "all" = none
  n_set : mg "set" = none
  n_dict : mg "dict" = none
  n_enumerate : mg "enumerate" = none
  n_sorted : mg "sorted" = none
  n_tuple : mg "tuple" = none
  n_bool : mg "bool" = none
  n_zip : mg "zip" = none
  n_reversed : mg "reversed" = none
  lETTERS : ∃ t, mg "LETTERS" = some (.str "abcdefghijklmnopqrstuvwxyz" t)
  mLETTERS : ∃ t, mg "MOST_LETTERS" = some (.int 8 t)
  mINPUTS : ∃ t, mg "MOST_INPUTS" = some (.int 4 t)
  mGATES : ∃ t, mg "MOST_GATES" = some (.int 7 t)
  mNODES : ∃ t, mg "MOST_NODES" = some (.int 40 t)
  tURNED : mg "TURNED" = some (.ref TT)
  tab : tabAt K TT [("0", .flat (.str "1")), ("1", .flat (.str "0"))]
structure Dk where
  d : Addr
noncomputable def Dk.own (D : Dk) (b : Addr) : Prop := b = D.d
noncomputable def Dk.At (D : Dk) (H : Hp) : Prop := ∃ a b c : Int, H D.d = some (.lst [.int a, .int b, .int c])
structure Kp (D : Dk) (H H' : Hp) : Prop where
  old : ∀ b o, H b = some o → ¬ D.own b → H' b = some o
  dk : D.At H'
noncomputable def spDraw : Sp := fun vs H Q _ => ∃ (D : Dk) (m : Int), vs = [.ref D.d, .int m] ∧ D.At H ∧ 1 ≤ m ∧ m ≤ 100000 ∧ ∀ (r : Int) H', 0 ≤ r → r < m → Kp D H H' → Q (.int r) H'
theorem kp_mk {D : Dk} {H : Hp} {a b c : Int} : Kp D H (upd H D.d (.lst [.int a, .int b, .int c])) := ⟨fun b o e nb => by rw [upd_ne nb]; exact e, ⟨_, _, _, upd_same⟩⟩

noncomputable def KeepT (H H' : Hp) : Prop := ∀ b xs, H b = some (.tup xs) → H' b = some (.tup xs)
theorem Same.tups {H H' : Hp} (S : Same H H') : KeepT H H' := fun b xs e => S b _ e
theorem Dk.At.same {D : Dk} {H H' : Hp} (S : Same H H') (h : D.At H) : D.At H' := let ⟨a, b, c, e⟩ := h; ⟨a, b, c, S _ _ e⟩
theorem Kp.of {D : Dk} {H H' : Hp} (h : D.At H) (S : Same H H') : Kp D H H' := ⟨fun b o e _ => S b o e, h.same S⟩
theorem Kp.trans {D : Dk} {H H1 H2 : Hp} (a : Kp D H H1) (b : Kp D H1 H2) : Kp D H H2 := ⟨fun c o e n => b.old c o (a.old c o e n) n, b.dk⟩
theorem notOwn {D : Dk} {H : Hp} (DA : D.At H) {b : Addr} {o : HO} (h : H b = some o) (hi : ∀ xs, o = .lst xs → ∀ i : Int, V.int i ∉ xs) : ¬ D.own b := by
  obtain ⟨x, y, z, e⟩ := DA
  intro q
  cases q
  rw [e] at h
  exact hi _ (Option.some.inj h).symm x (by simp)
theorem Kp.tups {D : Dk} {H H' : Hp} (DA : D.At H) (k : Kp D H H') : KeepT H H' := fun b xs e => k.old b _ e (notOwn DA e (fun _ z => nomatch z))
theorem noint_strs (ns : List Str) : ∀ i : Int, V.int i ∉ ns.map V.str := fun i h => by
  obtain ⟨x, _, e⟩ := List.mem_map.mp h
  cases e
theorem Kp.strs {D : Dk} {H H' : Hp} (DA : D.At H) (k : Kp D H H') {l : Addr} {ns : List Str} (h : H l = some (.lst (ns.map V.str))) : H' l = some (.lst (ns.map V.str)) :=
  k.old l _ h (notOwn DA h (fun xs e => by cases e; exact noint_strs ns))
theorem noint_refs {xs : List V} (h : ∀ x ∈ xs, ∃ a, x = V.ref a) : ∀ i : Int, V.int i ∉ xs := fun i hi => by
  obtain ⟨a, e⟩ := h _ hi
  cases e
theorem Kp.refs {D : Dk} {H H' : Hp} (DA : D.At H) (k : Kp D H H') {l : Addr} {xs : List V} (h : H l = some (.lst xs)) (hr : ∀ x ∈ xs, ∃ a, x = V.ref a) : H' l = some (.lst xs) :=
  k.old l _ h (notOwn DA h (fun ys e => by cases e; exact noint_refs hr))
theorem Kp.fresh {D : Dk} {H H' : Hp} {L : Addr} {o : HO} (DA : D.At H) (hL : H L = none) (k : Kp D H H') : Kp D H (upd H' L o) := by
  obtain ⟨a0, b0, c0, e0⟩ := DA
  obtain ⟨a, b, c, e⟩ := k.dk
  exact ⟨fun b u e nb => by rw [upd_ne (ne_of_none e hL)]; exact k.old b u e nb, ⟨a, b, c, by rw [upd_ne (ne_of_none e0 hL)]; exact e⟩⟩
theorem Kp.new {D : Dk} {H H' : Hp} {p : Addr} {o : HO} (k : Kp D H H') (hp : H' p = none) : Kp D H (upd H' p o) := k.trans (Kp.of k.dk (fresh_same hp))
theorem Kp.free {D : Dk} {H H' : Hp} {l : Addr} (k : Kp D H H') (h : H' l = none) : H l = none := by
  cases e : H l with
  | none => rfl
  | some o =>
    exfalso
    by_cases c : D.own l
    · obtain ⟨a, b, z, q⟩ := k.dk
      cases c
      rw [q] at h
      cases h
    · rw [k.old l o e c] at h
      cases h
theorem notOwn_fresh {D : Dk} {H : Hp} {p : Addr} (DA : D.At H) (hp : H p = none) : ¬ D.own p := fun z => by
  obtain ⟨a, b, c, e⟩ := DA
  cases z
  rw [e] at hp
  cases hp
structure StOk (n : Nat) (z : Str) : Prop where
  len : z.cps.size = n
  signs : ∀ c ∈ z.cps.toList, c = 48 ∨ c = 49
theorem call_len_seqK {X : Cx} {K : PySem.W.Frag} (h : X.K = K) : CallR X (.builtin "len") (fun xs H Q => ∃ p ys, xs = [.ref p] ∧ (SqL K H p ys ∨ SqT K H p ys) ∧ Q (.int ys.length) H) := by subst h; exact call_len_seq
theorem call_isinstK {X : Cx} {K : PySem.W.Frag} (h : X.K = K) : CallR X (.builtin "isinstance") (fun xs H Q => ∃ x T ty b, xs = [x, .ty T] ∧ TyOf K H x ty ∧ PySem.W.kitOne K ty (.type T) = some b ∧ Q (.bl b) H) := by subst h; exact call_isinst
theorem op_notIn_seqK {X : Cx} {K : PySem.W.Frag} (h : X.K = K) : OpR X (compareOp .NotIn) (rIn K true) := by subst h; exact op_notIn_seq
theorem pi_listK {X : Cx} {K : PySem.W.Frag} {tg l : Expr} {tl : TE} (h : X.K = K) (hl : PE X l tl) : PI X tg l (iList K tl) := by subst h; exact pi_list hl
theorem pg_tupK {X : Cx} {K : PySem.W.Frag} {es : List Expr} {k : Nat} {t : TGs} {n : Nat} {pos : Pos} (hK : X.K = K) (hc : X.calm = true) (h : PGs X es t)
    (hn : (assignEach es X.env).length = n := by rfl) (hst : (assignEach es X.env).findIdx? (·.1) = none := by rfl) : PG X (.Tuple es k pos) (gTup K n t) := by subst hK; exact pg_tup hc h hn hst
theorem seq_join {A B : TS} {D : Ends} {σ : St} {H : Hp} (J : St → Hp → Prop) (h : ∀ (R : St → Hp → Prop), (∀ σ H, J σ H → R σ H) → A { D with nx := R } σ H) (hJ : ∀ σ H, J σ H → B D σ H) : tSeq A B D σ H := h (B D) hJ
theorem erase_map {α β : Type} (f : α → β) : ∀ (xs : List α) (k : Nat), (xs.map f).eraseIdx k = (xs.eraseIdx k).map f
  | [], _ => rfl
  | _ :: _, 0 => rfl
  | x :: xs, k + 1 => by
    rw [List.map_cons, List.eraseIdx_cons_succ, List.eraseIdx_cons_succ, List.map_cons, erase_map f xs k]
theorem se_tup {a : List Expr} {n : Nat} {p : Pos} {es : List Expr} {env : Env} : starEach (.Tuple a n p :: es) env = (false, eval (.Tuple a n p) env) :: starEach es env := by rfl
theorem se_lst {a : List Expr} {p : Pos} {es : List Expr} {env : Env} : starEach (.List a p :: es) env = (false, eval (.List a p) env) :: starEach es env := by rfl
theorem se_call {f : Expr} {a : List Expr} {k : List Keyword} {p : Pos} {es : List Expr} {env : Env} : starEach (.Call f a k p :: es) env = (false, eval (.Call f a k p) env) :: starEach es env := by rfl
theorem se_con {c : Const} {n : Nat} {p : Pos} {es : List Expr} {env : Env} : starEach (.Constant c n p :: es) env = (false, eval (.Constant c n p) env) :: starEach es env := by rfl
theorem se_name {x : Str} {p : Pos} {es : List Expr} {env : Env} : starEach (.Name x p :: es) env = (false, eval (.Name x p) env) :: starEach es env := by rfl
theorem se_bin {a b : Expr} {o : Operator} {p : Pos} {es : List Expr} {env : Env} : starEach (.BinOp a o b p :: es) env = (false, eval (.BinOp a o b p) env) :: starEach es env := by rfl
theorem se_lc {a : Expr} {g : List Comprehension} {sc : Scope} {p : Pos} {es : List Expr} {env : Env} : starEach (.ListComp a g sc p :: es) env = (false, eval (.ListComp a g sc p) env) :: starEach es env := by rfl
theorem se_sub {a b : Expr} {p : Pos} {es : List Expr} {env : Env} : starEach (.Subscript a b p :: es) env = (false, eval (.Subscript a b p) env) :: starEach es env := by rfl
theorem ne_of_none' {H : Hp} {a b : Addr} {o : HO} (h1 : H a = some o) (h2 : H b = none) : b ≠ a := fun z => by rw [z, h1] at h2; cases h2
theorem paired_snoc {α β : Type} {F : α → β → Prop} : ∀ {xs : List α} {ys : List β} {x : α} {y : β}, Paired F xs ys → F x y → Paired F (xs ++ [x]) (ys ++ [y])
  | _, _, _, _, .nil, h => .cons h .nil
  | _, _, _, _, .cons h t, g => .cons h (paired_snoc t g)
theorem paired_mono {α β : Type} {F G : α → β → Prop} (h : ∀ a b, F a b → G a b) : ∀ {xs : List α} {ys : List β}, Paired F xs ys → Paired G xs ys
  | _, _, .nil => .nil
  | _, _, .cons a t => .cons (h _ _ a) (paired_mono h t)
theorem paired_get {α β : Type} {F : α → β → Prop} : ∀ {xs : List α} {ys : List β} {i : Nat} {x : α}, Paired F xs ys → xs[i]? = some x → ∃ y, ys[i]? = some y ∧ F x y
  | _, _, _, _, .nil, e => by simp at e
  | _, _, 0, _, .cons r _, e => by simp at e; subst e; exact ⟨_, rfl, r⟩
  | _, _, i + 1, x, .cons _ t, e => by
    obtain ⟨u, h1, h2⟩ := paired_get (i := i) (x := x) t (by simpa using e)
    exact ⟨u, by simpa using h1, h2⟩
theorem paired_get' {α β : Type} {F : α → β → Prop} : ∀ {xs : List α} {ys : List β} {i : Nat} {y : β}, Paired F xs ys → ys[i]? = some y → ∃ x, xs[i]? = some x ∧ F x y
  | _, _, _, _, .nil, e => by simp at e
  | _, _, 0, _, .cons r _, e => by simp at e; subst e; exact ⟨_, rfl, r⟩
  | _, _, i + 1, y, .cons _ t, e => by
    obtain ⟨u, h1, h2⟩ := paired_get' (i := i) (y := y) t (by simpa using e)
    exact ⟨u, by simpa using h1, h2⟩
theorem ifT {c : Bool} {A B : Prop} (hc : c = true) (h : A) : if c = true then A else B := by rw [if_pos hc]; exact h
theorem ifF {c : Bool} {A B : Prop} (hc : c = false) (h : B) : if c = true then A else B := by subst hc; exact iteF h
theorem same_upd {H H' : Hp} {D : Addr} {o : HO} (S : Same H H') (hD : H D = none) : Same H (upd H' D o) := fun b u e => by rw [upd_ne (ne_of_none e hD)]; exact S b u e
theorem i_yes {σ : St} {H : Hp} {R : Bool → Hp → Prop} (q : R true H) : tYes σ H R := q
theorem i_dget {td ty : TE} {σ : St} {H : Hp} {Q : VK} (q : td σ H fun x H1 => ty σ H1 fun y H2 => ∃ a v, x = .ref a ∧ DGet H2 a y (some v) ∧ Q v H2) : tDGet td ty σ H Q := q
theorem i_un {r : V → Hp → VK → Prop} {ta : TE} {σ : St} {H : Hp} {Q : VK} (q : ta σ H fun x H1 => r x H1 Q) : tUn r ta σ H Q := q
theorem i_rU {g : Int → V} {i : Int} {H : Hp} {Q : VK} (q : Q (g i) H) : rU g (.int i) H Q := ⟨i, rfl, q⟩
theorem upd_pair {H H' : Hp} {p : Addr} {o : HO} (h : H p = none) (e : upd H p o = H') : Same H H' ∧ H' p = some o := by
  subst e
  exact ⟨fresh_same h, upd_same⟩
theorem paired_len {α β : Type} {F : α → β → Prop} : ∀ {xs : List α} {ys : List β}, Paired F xs ys → xs.length = ys.length
  | _, _, .nil => rfl
  | _, _, .cons h t => by simp [paired_len t]
end K2
set_option Elab.async false
set_option linter.all false
set_option maxRecDepth 100000
set_option maxHeartbeats 4000000
namespace K2
open PySem L2
local macro_rules | `(tactic| walk_at "vc") => `(tactic| first
  | (with_reducible refine s_seq ?_) | (with_reducible refine s_asg ?_) | (with_reducible refine s_name ?_) | (with_reducible refine s_drop ?_) | (with_reducible refine s_ret ?_) | (with_reducible refine s_if ?_) | (with_reducible refine s_sub ?_) | (with_reducible refine s_next ?_)
  | ((with_reducible refine' i_var ?hv ?_); (case hv => exact rfl)) | (with_reducible refine i_c ?_) | (with_reducible refine i_op ?_) | (with_reducible refine i_rI0 ?_) | (with_reducible refine i_test ?_) | (with_reducible refine i_tB ?_) | (with_reducible refine i_and ?_) | (with_reducible refine i_or ?_)
  | (with_reducible refine i_not ?_) | (with_reducible refine i_andV ?_) | (with_reducible refine i_orV ?_) | (with_reducible refine i_notV ?_) | (with_reducible refine i_ifE ?_) | (with_reducible refine i_nil ?_) | (with_reducible refine i_cons ?_) | (with_reducible refine i_call ?_) | (with_reducible refine i_cb ?_)
  | (with_reducible refine i_tup ?_) | (with_reducible refine i_lst ?_) | (with_reducible refine i_bm ?_) | (with_reducible refine i_sl ?_) | (with_reducible refine i_nopart ?_) | (with_reducible refine i_part ?_) | ((with_reducible show ∃ i, V.int _ = V.int i ∧ _); (refine ⟨_, rfl, ?_⟩)) | ((with_reducible show ∃ k, V.bl _ = V.bl k ∧ _); (refine ⟨_, rfl, ?_⟩)) | ((with_reducible show (∃ i, [V.bl _] = [V.int i] ∧ _) ∨ _); (refine Or.inr ⟨_, rfl, ?_⟩))
  | (with_reducible refine s_for ?_) | (with_reducible refine s_rng1 ?_) | (with_reducible refine s_list ?_) | (with_reducible refine s_str ?_) | (with_reducible refine s_strI ?_) | (with_reducible refine iteF ?_) | (with_reducible refine iteT ?_)
  | ((with_reducible refine' i_ixL ?ha ?hb ?_); (case ha => exact SqL.of (by assumption)); (case hb => exact rfl)) | ((with_reducible refine' i_ixT ?ha ?hb ?_); (case ha => assumption); (case hb => exact rfl))
  | ((with_reducible show ∃ p _, [V.ref _] = [V.ref p] ∧ (SqL _ _ _ _ ∨ SqT _ _ _ _) ∧ _); (refine' ⟨_, _, rfl, Or.inl (SqL.of ?ha), ?_⟩); (case ha => assumption)) | ((with_reducible refine' s_setL ?ha ?hb ?_); (case ha => assumption); (case hb => exact rfl))
  | ((with_reducible refine' i_eq ?ha ?_); (case ha => exact rfl)) | ((with_reducible refine' i_ne ?ha ?_); (case ha => exact rfl))
  | (with_reducible refine i_dget ?_) | (with_reducible refine i_yes ?_) | ((with_reducible show ∃ z, V.str _ = V.str z ∧ _); (refine ⟨_, rfl, ?_⟩))
  | (with_reducible refine i_un ?_) | (with_reducible refine i_rU ?_)
  | ((with_reducible refine' i_rI ?hv ?_); (case hv => first | decide | (dsimp only; omega) | exact .inl ⟨by omega, by omega⟩ | exact .inr ⟨by omega, by omega⟩ | exact ⟨by decide, by decide⟩ | exact ⟨by decide, by decide, by decide⟩ | exact ⟨by omega, by omega⟩))
  | ((with_reducible show ∃ i, [V.int _] = [V.int i] ∧ _); (refine ⟨_, rfl, ?_⟩))
  | ((with_reducible show tyV _ "list" _ _ ∧ _); (refine' ⟨i_tyL ?ha, ?_⟩); (case ha => assumption)))

structure Low (z : Str) : Prop where
  l1 : 1 ≤ z.length
  l8 : z.length ≤ 8
  low : ∀ c ∈ z.cps.toList, 97 ≤ c ∧ c ≤ 122
noncomputable def spPair : Sp := fun vs H Q _ => ∃ a xs, vs = [.ref a] ∧ H a = some (.tup xs) ∧ xs.length ≤ 1000 ∧ Q (.bl (decide (xs.length = 2))) H
noncomputable def spName : Sp := fun vs H Q _ => ∃ z, vs = [.str z] ∧ Low z ∧ ∀ H', Same H H' → Q (.bl true) H'
theorem i_chain {r r' : R2} {ta tb tc : TE} {σ : St} {H : Hp} {Q : VK} (q : ta σ H fun x H1 => tb σ H1 fun y H2 => r x y H2 fun z H3 => ∃ k, z = .bl k ∧ (if k = true then tc σ H3 fun w' H4 => r' y w' H4 Q else Q (.bl false) H3)) : tChain r r' ta tb tc σ H Q := q
theorem low_in {c : Nat} (h : 97 ≤ c ∧ c ≤ 122) : (!(Builtin.Str.occurrences (Str.ofString "abcdefghijklmnopqrstuvwxyz") (⟨#[c]⟩ : Str) 0 (Str.ofString "abcdefghijklmnopqrstuvwxyz").length 1).isEmpty) = true := by
  have all : ∀ k : Fin 26, (!(Builtin.Str.occurrences (Str.ofString "abcdefghijklmnopqrstuvwxyz") (⟨#[97 + k.val]⟩ : Str) 0 (Str.ofString "abcdefghijklmnopqrstuvwxyz").length 1).isEmpty) = true := by decide +kernel
  have q := all ⟨c - 97, by omega⟩
  have e : 97 + (c - 97) = c := by omega
  simpa only [e] using q
noncomputable def spUnlike : Sp := fun vs H Q _ => ∃ (l : Addr) (ts : List Str), vs = [.ref l] ∧ H l = some (.lst (ts.map V.str)) ∧ ts.length ≤ 100 ∧ (∀ z ∈ ts, Low z) ∧ ∀ H', Same H H' → Q (.bl (decide ts.Nodup)) H'
theorem i_lens {K : PySem.W.Frag} {ta : TA} {σ : St} {H : Hp} {Q : VK} (q : ta σ H fun vs H1 => ∃ (l : Addr) (ts : List Str), vs = [.ref l] ∧ SqL K H1 l (ts.map V.str) ∧ ts.length < 1000 ∧ Q (.int (uniq ts)) H1) : tLenSet K ta σ H Q := q
noncomputable def spRow : Sp := fun vs H Q _ => ∃ (z : Str) (m : Nat), vs = [.str z, .int (m : Int)] ∧ m ≤ 11 ∧ StOk m z ∧ ∀ H', Same H H' → Q (.bl true) H'
noncomputable def spWhole : Sp := fun vs H Q _ => ∃ (i : Int), vs = [.int i] ∧ Q (.bl true) H
noncomputable def spBelow : Sp := fun vs H Q _ => ∃ (i n : Int), vs = [.int i, .int n] ∧ Q (.bl (decide (0 ≤ i ∧ i < n))) H
theorem kit_ib {K : PySem.W.Frag} : PySem.W.kitOne K (.type "int") (.type "bool") = some false := by with_unfolding_all rfl
section
variable {P : Program} {w : World} {K : PySem.W.Frag} {mg : Str → Option Value} {base : Heap} {TT : Addr}
theorem sc_is_pair : FnScope ["thing"] ["thing"] (defScope (top 7)) := ⟨rfl, rfl, rfl, by decide +kernel, rfl, by decide +kernel, by decide +kernel⟩
theorem ok_pair {f : Addr} {fd : FuncData} (Fu : Fun K "is_pair" "is_pair" (top 7) f fd) (T : Txt K mg TT) : FnOk P w K mg base CX0 1 f fd ["thing"] spPair := by
  have S := sc_is_pair
  refine Fu.ok S (fun vs H Q E h => ?_) (fun cdv A outer s H vs Q E hr h => ?_)
  · obtain ⟨a, xs, rfl, _⟩ := h
    rfl
  · obtain ⟨a, xs, rfl, ha, hx, q⟩ := h
    refine ⟨_, (pss_one (ps_ret (pe_and (pe_callB call_isinst (by rfl) T.n_isinstance PyProof.Rows.boot_isinstance (pa_cons (pv 0) (pa_cons (pe_bltn (v := .ty "tuple") (by rfl) T.n_tuple PyProof.Rows.boot_tuple rfl) pa_nil se_name) se_name)) (pe_one (pe_cmpR op_eq (pe_callB call_len_seq (by rfl) T.n_len PySem.boot_len (pa_cons (pv 0) pa_nil se_name)) pe_int (nomark _)))))), ?_⟩
    dsimp only [cxOf, Cx.nox, Cx.wish]
    rw [show L2.start ["thing"] [V.ref a] = [some (.ref a)] from rfl]
    repeat walk_at "vc"
    refine ⟨_, _, _, true, rfl, .tup ha, kit_same _, ?_⟩
    refine ⟨_, rfl, iteT ?_⟩
    repeat walk_at "vc"
    refine ⟨a, xs, rfl, .inr (SqT.of ha), ?_⟩
    repeat walk_at "vc"
    have e : decide (V.int ↑xs.length = V.int 2) = decide (xs.length = 2) := by
      rw [Bool.eq_iff_iff, decide_eq_true_iff, decide_eq_true_iff]
      constructor
      · intro h
        injection h with h
        omega
      · intro h
        rw [h]; rfl
    rw [e]
    exact q
theorem sc_is_name : FnScope ["thing"] ["thing"] (defScope (top 6)) := ⟨rfl, rfl, rfl, by decide +kernel, rfl, by decide +kernel, by decide +kernel⟩
theorem ok_name {f : Addr} {fd : FuncData} (Fu : Fun K "is_name" "is_name" (top 6) f fd) (T : Txt K mg TT) : FnOk P w K mg base CX0 1 f fd ["thing"] spName := by
  have S := sc_is_name
  refine Fu.ok S (fun vs H Q E h => ?_) (fun cdv A outer s H vs Q E hr h => ?_)
  · obtain ⟨z, rfl, _⟩ := h
    rfl
  · obtain ⟨z, rfl, lz, q⟩ := h
    obtain ⟨_, gLT⟩ := T.lETTERS
    obtain ⟨_, gML⟩ := T.mLETTERS
    refine ⟨_, (pss_cons (ps_if (PW.pt (pw_or (pt_not (pt_val (pe_callB call_isinst (by rfl) T.n_isinstance PyProof.Rows.boot_isinstance (pa_cons (pv 0) (pa_cons (pe_bltn (v := .ty "str") (by rfl) T.n_str PyProof.Rows.boot_str rfl) pa_nil se_name) se_name)))) (pw_or1 (pt_not (pt_chain op_le op_le pe_int (pe_callB call_len_str (by rfl) T.n_len PySem.boot_len (pa_cons (pv 0) pa_nil se_name)) (pe_glob (v := .int 8) (by rfl) gML ⟨_, rfl⟩)))))) (pss_one (ps_ret pe_bl)) pss_nil)
      (pss_one (ps_ret (pe_callB (call_all rfl) (by rfl) T.n_all PyProof.Rows.boot_all (pa_cons (pe_lc (tgs := ["sign"]) (cap := []) rfl ⟨rfl, rfl, rfl, rfl, rfl, rfl⟩ (pi_str (pv 0)) (fun _ _ _ _ => (pg_name (i := 0) (show List.Nodup [("sign" : Str)] by decide +kernel) rfl (by first | exact Or.inl rfl | exact Or.inr rfl))) (fun _ _ _ _ => pifs_nil) (fun _ _ _ _ => (pe_cmpR op_in_str (pv 0) (pe_glob (v := .str "abcdefghijklmnopqrstuvwxyz") (by rfl) gLT ⟨_, rfl⟩) rfl))) pa_nil))))), ?_⟩
    dsimp only [cxOf, Cx.nox, Cx.wish]
    rw [show L2.start ["thing"] [V.str z] = [some (.str z)] from rfl]
    repeat walk_at "vc"
    refine ⟨_, _, _, _, rfl, TyOf.str z, kit_same "str", ?_⟩
    refine ⟨_, rfl, iteF ?_⟩
    have big : 1000 < sizeLine := by decide
    have l1 := lz.l1
    have l8 := lz.l8
    repeat walk_at "vc"
    refine i_chain ?_
    repeat walk_at "vc"
    refine ⟨_, rfl, by omega, ?_⟩
    repeat walk_at "vc"
    refine ifT (decide_eq_true (by omega)) ?_
    repeat walk_at "vc"
    refine ifF (by rw [decide_eq_true (by omega)]; rfl) ?_
    repeat walk_at "vc"
    refine i_comp ?_
    repeat walk_at "vc"
    intro D hD
    refine comp_itf (fun n H' ys => Same H H' ∧ H' D = some (.lst ys) ∧ ys = (List.replicate n true).map V.bl) ⟨fresh_same hD, upd_same, rfl⟩ (fun n H' ys p => p.2.1) (fun n H' ys hn p => ?_) (fun H' ys p => ?_)
    · obtain ⟨Sm, hd, rfl⟩ := p
      refine s_name ⟨trivial, i_yes (iteT ?_)⟩
      refine i_op (i_var rfl (i_c ⟨_, _, rfl, rfl, ?_⟩))
      refine NextC.mk hd hn (by rw [List.length_map, List.length_replicate]; have : z.cps.size = z.length := rfl; omega) ⟨same_upd Sm hD, upd_same, ?_⟩
      have hc := low_in (c := z.cps.getD n 0) (by
        have e : z.cps.getD n 0 = z.cps[n] := by simp [Array.getD, hn]
        rw [e]
        exact lz.low _ (by simp))
      rw [List.replicate_succ', List.map_append]
      exact congrArg (fun b => List.map V.bl (List.replicate n true) ++ [V.bl b]) hc
    · obtain ⟨Sm, hd, rfl⟩ := p
      refine i_nil ⟨_, _, rfl, SqL.of hd, ?_⟩
      have e : (List.replicate z.cps.size true).all id = true := by simp
      rw [e]
      exact q H' Sm
theorem sc_are_unlike_names : FnScope ["things"] ["things"] (defScope (top 11)) := ⟨rfl, rfl, rfl, by decide +kernel, rfl, by decide +kernel, by decide +kernel⟩
theorem ok_unlike {f : Addr} {fd : FuncData} (Fu : Fun K "are_unlike_names" "are_unlike_names" (top 11) f fd) (T : Txt K mg TT) (f_is_name : Fn P w K mg base "is_name" ["thing"] 1 spName) : FnOk P w K mg base CX0 2 f fd ["things"] spUnlike := by
  have S := sc_are_unlike_names
  refine Fu.ok S (fun vs H Q E h => ?_) (fun cdv A outer s H vs Q E hr h => ?_)
  · obtain ⟨l, ts, rfl, _⟩ := h
    rfl
  · obtain ⟨l, ts, rfl, hl, sz, low, q⟩ := h
    refine ⟨_, (pss_one (ps_ret (pe_and (pe_callB (call_all rfl) (by rfl) T.n_all PyProof.Rows.boot_all (pa_cons (pe_lc (tgs := ["thing"]) (cap := []) rfl ⟨rfl, rfl, rfl, rfl, rfl, rfl⟩ (pi_list (pv 0)) (fun _ _ _ _ => (pg_name (i := 0) (show List.Nodup [("thing" : Str)] by decide +kernel) rfl (by first | exact Or.inl rfl | exact Or.inr rfl))) (fun _ _ _ _ => pifs_nil) (fun _ _ _ _ => (pe_fn f_is_name (hr.mono (by first | decide | omega)) (by rfl) (pa_cons (pv 0) pa_nil se_name)))) pa_nil)) (pe_one (pe_cmpR op_eq (pe_lenset rfl (by rfl) T.n_len (by rfl) T.n_set (pa_cons (pv 0) pa_nil se_name)) (pe_callB call_len_seq (by rfl) T.n_len PySem.boot_len (pa_cons (pv 0) pa_nil se_name)) (nomark _)))))), ?_⟩
    dsimp only [cxOf, Cx.nox, Cx.wish]
    rw [show L2.start ["things"] [V.ref l] = [some (.ref l)] from rfl]
    have big : 1000 < sizeLine := by decide
    repeat walk_at "vc"
    refine i_comp ?_
    repeat walk_at "vc"
    refine ⟨l, rfl, ⟨_, SqL.of hl⟩, fun D hD => ?_⟩
    refine comp_list (xs := ts.map V.str) (fun n H' ys => Same H H' ∧ H' D = some (.lst ys) ∧ ys = (List.replicate n true).map V.bl) ⟨fresh_same hD, upd_same, rfl⟩ (fun n H' ys p => ⟨p.2.1, SqL.of (p.1 _ _ hl)⟩) (fun n x H' ys e p => ?_) (fun H' ys p => ?_)
    · obtain ⟨Sm, hd, rfl⟩ := p
      have hn : n < (ts.map V.str).length := (List.getElem?_eq_some_iff.mp e).1
      rw [List.getElem?_map] at e
      obtain ⟨z, hz, rfl⟩ : ∃ z, ts[n]? = some z ∧ V.str z = x := by
        cases h : ts[n]? with
        | none => rw [h] at e; cases e
        | some z => rw [h] at e; exact ⟨z, rfl, Option.some.inj e⟩
      refine s_name ⟨trivial, i_yes (iteT ?_)⟩
      refine i_call (i_cons (i_var rfl (i_nil ⟨z, rfl, low z (List.mem_of_getElem? hz), fun H2 S2 => ?_⟩)))
      refine NextC.mk (S2 _ _ hd) hn (by rw [List.length_map, List.length_replicate]; rw [List.length_map] at hn; omega) ⟨same_upd (Sm.trans S2) hD, upd_same, ?_⟩
      rw [List.replicate_succ', List.map_append]; rfl
    · obtain ⟨Sm, hd, rfl⟩ := p
      refine i_nil ⟨_, _, rfl, SqL.of hd, ?_⟩
      have e : (List.replicate (ts.map V.str).length true).all id = true := by simp
      rw [e]
      have hl' := Sm _ _ hl
      refine ⟨_, rfl, iteT ?_⟩
      repeat walk_at "vc"
      refine i_lens ?_
      repeat walk_at "vc"
      refine ⟨l, ts, rfl, SqL.of hl', by omega, ?_⟩
      repeat walk_at "vc"
      have e2 : decide (V.int (uniq ts) = V.int ((ts.map V.str).length : Nat)) = decide ts.Nodup := by
        rw [Bool.eq_iff_iff, decide_eq_true_iff, decide_eq_true_iff, ← uniq_all, List.length_map]
        constructor
        · intro h
          injection h with h
          omega
        · intro h
          rw [h]
      rw [e2]
      exact q H' Sm
theorem sc_is_row : FnScope ["thing", "many"] ["thing", "many"] (defScope (top 10)) := ⟨rfl, rfl, rfl, by decide +kernel, rfl, by decide +kernel, by decide +kernel⟩
theorem ok_row {f : Addr} {fd : FuncData} (Fu : Fun K "is_row" "is_row" (top 10) f fd) (T : Txt K mg TT) : FnOk P w K mg base CX0 1 f fd ["thing", "many"] spRow := by
  have S := sc_is_row
  refine Fu.ok S (fun vs H Q E h => ?_) (fun cdv A outer s H vs Q E hr h => ?_)
  · obtain ⟨z, n, rfl, _⟩ := h
    rfl
  · obtain ⟨z, m, rfl, hm, st, k⟩ := h
    refine ⟨_, (pss_cons (ps_if (PW.pt (pw_or (pt_not (pt_val (pe_callB call_isinst (by rfl) T.n_isinstance PyProof.Rows.boot_isinstance (pa_cons (pv 0) (pa_cons (pe_bltn (v := .ty "str") (by rfl) T.n_str PyProof.Rows.boot_str rfl) pa_nil se_name) se_name)))) (pw_or1 (pt_cmpR op_ne (pe_callB call_len_str (by rfl) T.n_len PySem.boot_len (pa_cons (pv 0) pa_nil se_name)) (pv 1) (nomark _))))) (pss_one (ps_ret pe_bl)) pss_nil)
      (pss_one (ps_ret (pe_callB (call_all rfl) (by rfl) T.n_all PyProof.Rows.boot_all (pa_cons (pe_lc (tgs := ["sign"]) (cap := []) rfl ⟨rfl, rfl, rfl, rfl, rfl, rfl⟩ (pi_str (pv 0)) (fun _ _ _ _ => (pg_name (i := 0) (show List.Nodup [("sign" : Str)] by decide +kernel) rfl (by first | exact Or.inl rfl | exact Or.inr rfl))) (fun _ _ _ _ => pifs_nil) (fun _ _ _ _ => (pe_cmpR (op_in_tab T.tab) (pv 0) (pe_glob (v := .ref TT) (by rfl) T.tURNED rfl) rfl))) pa_nil))))), ?_⟩
    try dsimp only [cxOf, Cx.nox, Cx.wish]
    rw [show L2.start ["thing", "many"] [V.str z, V.int (m : Int)] = [some (.str z), some (.int (m : Int))] from rfl]
    repeat walk_at "vc"
    refine ⟨_, _, _, _, rfl, TyOf.str z, kit_same "str", ?_⟩
    refine ⟨_, rfl, iteF ?_⟩
    have hz : z.length = m := st.len
    have big : 1000 < sizeLine := by decide
    repeat walk_at "vc"
    refine ⟨_, rfl, (by omega), ?_⟩
    repeat walk_at "vc"
    refine ite2 (fun h => ?_) (fun _ => ?_)
    · exfalso
      have e : (V.int ↑z.length) = V.int (m : Int) := congrArg (fun (n : Nat) => V.int (n : Int)) hz
      simp [e] at h
    repeat walk_at "vc"
    refine i_comp ?_
    repeat walk_at "vc"
    intro D hD
    refine comp_itf (fun n H' ys => Same H H' ∧ H' D = some (.lst ys) ∧ ys = (List.replicate n true).map V.bl) ⟨fresh_same hD, upd_same, rfl⟩ (fun n H' ys p => p.2.1) (fun n H' ys hn p => ?_) (fun H' ys p => ?_)
    · obtain ⟨Sm, hd, rfl⟩ := p
      refine s_name ⟨trivial, i_yes (iteT ?_)⟩
      refine i_op (i_var rfl (i_c ⟨_, rfl, rfl, ?_⟩))
      refine NextC.mk hd hn (by rw [List.length_map, List.length_replicate]; have : z.cps.size = z.length := rfl; omega) ⟨same_upd Sm hD, upd_same, ?_⟩
      have hc : PyProof.Rows.KTD.inKeys (⟨#[z.cps.getD n 0]⟩ : Str) [(("0" : Str), PyProof.Rows.KTD.Dat.flat (PyData.str "1")), ("1", .flat (.str "0"))] = true := by
        have : z.cps.getD n 0 = 48 ∨ z.cps.getD n 0 = 49 := by
          have e : z.cps.getD n 0 = z.cps[n] := by simp [Array.getD, hn]
          rw [e]
          exact st.signs _ (by simp)
        rcases this with e | e
        · rw [e]; decide +kernel
        · rw [e]; decide +kernel
      rw [List.replicate_succ', List.map_append]
      exact congrArg (fun b => List.map V.bl (List.replicate n true) ++ [V.bl b]) hc
    · obtain ⟨Sm, hd, rfl⟩ := p
      refine i_nil ⟨_, _, rfl, SqL.of hd, ?_⟩
      have e : (List.replicate z.cps.size true).all id = true := by simp
      rw [e]
      exact k H' Sm
theorem sc_is_whole : FnScope ["thing"] ["thing"] (defScope (top 8)) := ⟨rfl, rfl, rfl, by decide +kernel, rfl, by decide +kernel, by decide +kernel⟩
theorem ok_whole {f : Addr} {fd : FuncData} (Fu : Fun K "is_whole" "is_whole" (top 8) f fd) (T : Txt K mg TT) : FnOk P w K mg base CX0 1 f fd ["thing"] spWhole := by
  have S := sc_is_whole
  refine Fu.ok S (fun vs H Q E h => ?_) (fun cdv A outer s H vs Q E hr h => ?_)
  · obtain ⟨i, rfl, _⟩ := h
    rfl
  · obtain ⟨i, rfl, q⟩ := h
    refine ⟨_, (pss_one (ps_ret (pe_and (pe_callB call_isinst (by rfl) T.n_isinstance PyProof.Rows.boot_isinstance (pa_cons (pv 0) (pa_cons (pe_bltn (v := .ty "int") (by rfl) T.n_int PyProof.Rows.boot_int rfl) pa_nil se_name) se_name)) (pe_one (pe_not (pe_callB call_isinst (by rfl) T.n_isinstance PyProof.Rows.boot_isinstance (pa_cons (pv 0) (pa_cons (pe_bltn (v := .ty "bool") (by rfl) T.n_bool PyProof.Rows.boot_bool rfl) pa_nil se_name) se_name))))))), ?_⟩
    try dsimp only [cxOf, Cx.nox, Cx.wish]
    rw [show L2.start ["thing"] [V.int i] = [some (.int i)] from rfl]
    repeat walk_at "vc"
    refine ⟨_, _, _, _, rfl, TyOf.int i, kit_same "int", _, rfl, iteT ?_⟩
    repeat walk_at "vc"
    exact ⟨_, _, _, _, rfl, TyOf.int i, kit_ib, _, rfl, q⟩
theorem sc_is_number_below : FnScope ["thing", "bound"] ["thing", "bound"] (defScope (top 9)) := ⟨rfl, rfl, rfl, by decide +kernel, rfl, by decide +kernel, by decide +kernel⟩
theorem ok_below {f : Addr} {fd : FuncData} (Fu : Fun K "is_number_below" "is_number_below" (top 9) f fd) (T : Txt K mg TT) (f_is_whole : Fn P w K mg base "is_whole" ["thing"] 1 spWhole) : FnOk P w K mg base CX0 2 f fd ["thing", "bound"] spBelow := by
  have S := sc_is_number_below
  refine Fu.ok S (fun vs H Q E h => ?_) (fun cdv A outer s H vs Q E hr h => ?_)
  · obtain ⟨i, n, rfl, _⟩ := h
    rfl
  · obtain ⟨i, n, rfl, q⟩ := h
    refine ⟨_, (pss_one (ps_ret (pe_and (pe_fn f_is_whole (hr.mono (by first | decide | omega)) (by rfl) (pa_cons (pv 0) pa_nil se_name)) (pe_one (pe_chain op_le op_lt pe_int (pv 0) (pv 1)))))), ?_⟩
    try dsimp only [cxOf, Cx.nox, Cx.wish]
    rw [show L2.start ["thing", "bound"] [V.int i, V.int n] = [some (.int i), some (.int n)] from rfl]
    repeat walk_at "vc"
    refine ⟨i, rfl, _, rfl, iteT ?_⟩
    refine i_chain ?_
    repeat walk_at "vc"
    by_cases c : 0 ≤ i
    · refine ifT (decide_eq_true c) ?_
      repeat walk_at "vc"
      have e : decide (0 ≤ i ∧ i < n) = decide (i < n) := by simp [c]
      rw [e] at q
      exact q
    · refine ifF (decide_eq_false c) ?_
      have e : decide (0 ≤ i ∧ i < n) = false := decide_eq_false fun h => c h.1
      rw [e] at q
      exact q
end
set_option Elab.async false
set_option linter.all false
set_option maxRecDepth 100000
set_option maxHeartbeats 4000000

noncomputable def sg (b : Bool) : V := if b then .str "1" else .str "0"
theorem sign_sg {n : Nat} {z : Str} (st : StOk n z) {i : Nat} (hi : i < n) : signV z i = sg (z.cps.getD i 0 == 49) := by
  have hl := st.len
  have e : z.cps.getD i 0 = z.cps[i]'(by omega) := by simp [Array.getD, hl, hi]
  have : z.cps.getD i 0 = 48 ∨ z.cps.getD i 0 = 49 := by
    rw [e]
    exact st.signs _ (by simp)
  unfold signV
  rcases this with e | e
  · rw [e]; decide +kernel
  · rw [e]; decide +kernel
noncomputable def flipT (z : Str) (i : Nat) : Str := if (z.cps.getD i 0 == 49) = true then "0" else "1"
noncomputable def turnT (z : Str) (i : Nat) : Str := (Txt.slice z none (some (i : Int)) ++ flipT z i) ++ Txt.slice z (some ((i : Int) + 1)) none
noncomputable def spTurned : Sp := fun vs H Q _ => ∃ (z : Str) (n i : Nat), vs = [.str z, .int (i : Int)] ∧ StOk n z ∧ i < n ∧ n ≤ 11 ∧ Q (.str (turnT z i)) H
section
variable {P : Program} {w : World} {K : PySem.W.Frag} {mg : Str → Option Value} {base : Heap} {TT : Addr}
theorem at_sign {n : Nat} {z : Str} (st : StOk n z) {i : Nat} (hi : i < n) : atI z.cps.toList ((i : Nat) : Int) = some (z.cps.getD i 0) := by
  have hl := st.len
  refine atI_nat ?_
  simp [Array.getD, hl, hi]
theorem sc_turned_at : FnScope ["standing", "place"] ["standing", "place"] (defScope (top 12)) := ⟨rfl, rfl, rfl, by decide +kernel, rfl, by decide +kernel, by decide +kernel⟩
theorem ok_turned {f : Addr} {fd : FuncData} (Fu : Fun K "turned_at" "turned_at" (top 12) f fd) (T : Txt K mg TT) : FnOk P w K mg base CX0 1 f fd ["standing", "place"] spTurned := by
  have S := sc_turned_at
  refine Fu.ok S (fun vs H Q E h => ?_) (fun cdv A outer s H vs Q E hr h => ?_)
  · obtain ⟨z, n, i, rfl, _⟩ := h
    rfl
  · obtain ⟨z, n, i, rfl, st, hi, hn, k⟩ := h
    refine ⟨_, (pss_one (ps_ret (pe_op op_add_str (pe_op op_add_str (pe_slice sl_str (pv 0) po_none (po_some (pv 1))) (pe_ix (ix_turn T.tab) (pe_glob (v := .ref TT) (by rfl) T.tURNED rfl) (pe_ix ix_str (pv 0) (pv 1) (fun _ _ => rfl)) (fun _ _ => rfl))) (pe_slice sl_str (pv 0) (po_some (pe_op op_add (pv 1) pe_int)) po_none)))), ?_⟩
    try dsimp only [cxOf, Cx.nox, Cx.wish]
    rw [show L2.start ["standing", "place"] [V.str z, V.int (i : Int)] = [some (.str z), some (.int (i : Int))] from rfl]
    have hz : z.length = n := st.len
    have big : 1000 < sizeLine := by decide
    repeat walk_at "vc"
    have s1 := Txt.slice_le z none (some (i : Int))
    have s2 := Txt.slice_le z (some ((i : Int) + 1)) none
    have fl : (flipT z i).length = 1 := by
      unfold flipT
      split
      · decide +kernel
      · decide +kernel
    refine i_slS (by omega) ?_
    refine i_op (i_c ?_)
    refine i_op (i_var rfl (i_var rfl (i_ixS (by omega) (at_sign st hi) ?_)))
    have e := sign_sg st hi
    unfold signV at e
    rw [e]
    have step : ∀ (b : Bool) (G : VK), G (.str (if b = true then "0" else "1")) H → rIxTurn TT (.ref TT) (sg b) H G := fun b G g => by
      cases b
      · exact ⟨rfl, .inl ⟨rfl, g⟩⟩
      · exact ⟨rfl, .inr ⟨rfl, g⟩⟩
    refine step _ _ ?_
    show ∃ i_1 j, V.str _ = V.str i_1 ∧ V.str (flipT z i) = V.str j ∧ _
    have l1 : (Txt.slice z none (some (i : Int)) ++ flipT z i).length = (Txt.slice z none (some (i : Int))).length + (flipT z i).length := Array.size_append
    refine ⟨_, _, rfl, rfl, by omega, ?_⟩
    repeat walk_at "vc"
    refine i_slS (by omega) ?_
    exact ⟨_, _, rfl, rfl, by rw [l1]; omega, k⟩
theorem sc_law_flip : FnScope ["signs", "at"] ["signs", "at"] (defScope (top 31)) := ⟨rfl, rfl, rfl, by decide +kernel, rfl, by decide +kernel, by decide +kernel⟩
theorem ok_flip {f : Addr} {fd : FuncData} (Fu : Fun K "_law_flip" "_law_flip" (top 31) f fd) (T : Txt K mg TT) : FnOk P w K mg base CX0 1 f fd ["signs", "at"] spTurned := by
  have S := sc_law_flip
  refine Fu.ok S (fun vs H Q E h => ?_) (fun cdv A outer s H vs Q E hr h => ?_)
  · obtain ⟨z, n, i, rfl, _⟩ := h
    rfl
  · obtain ⟨z, n, i, rfl, st, hi, hn, k⟩ := h
    refine ⟨_, (pss_one (ps_ret (pe_op op_add_str (pe_op op_add_str (pe_slice sl_str (pv 0) po_none (po_some (pv 1))) (pe_ix ix_str pe_str (pe_callTy call_int_text (by rfl) T.n_int PyProof.Rows.boot_int (pa_cons (pe_ix ix_str (pv 0) (pv 1) (fun _ _ => rfl)) pa_nil)) (fun _ _ => rfl))) (pe_slice sl_str (pv 0) (po_some (pe_op op_add (pv 1) pe_int)) po_none)))), ?_⟩
    try dsimp only [cxOf, Cx.nox, Cx.wish]
    rw [show L2.start ["signs", "at"] [V.str z, V.int (i : Int)] = [some (.str z), some (.int (i : Int))] from rfl]
    have hz : z.length = n := st.len
    have big : 1000 < sizeLine := by decide
    repeat walk_at "vc"
    have s1 := Txt.slice_le z none (some (i : Int))
    have s2 := Txt.slice_le z (some ((i : Int) + 1)) none
    have fl : (flipT z i).length = 1 := by
      unfold flipT
      split
      · decide +kernel
      · decide +kernel
    refine i_slS (by omega) ?_
    refine i_op (i_c ?_)
    refine i_cb (i_cons (i_op (i_var rfl (i_var rfl (i_ixS (by omega) (at_sign st hi) ?_)))))
    refine i_nil ?_
    have step : ∀ (G : VK), G (.str (flipT z i)) H → (fun xs H Q => ∃ z n, xs = [V.str z] ∧ PySem.intText? z = some n ∧ z.length ≤ 640 ∧ Q (V.int n) H) [V.str ⟨#[z.cps.getD i 0]⟩] H (fun y H2 => rIxS (V.str "10") y H2 G) := fun G g => by
      have sgns : z.cps.getD i 0 = 48 ∨ z.cps.getD i 0 = 49 := by
        have hl := st.len
        have e : z.cps.getD i 0 = z.cps[i]'(by omega) := by simp [Array.getD, hl, hi]
        rw [e]
        exact st.signs _ (by simp)
      have ef : flipT z i = if (z.cps.getD i 0 == 49) = true then ("0" : Str) else ("1" : Str) := rfl
      rcases sgns with e | e
      · rw [e]
        rw [e] at ef
        refine ⟨_, 0, rfl, by decide +kernel, by decide, ?_⟩
        refine ⟨"10", 0, 49, rfl, rfl, by decide, by decide +kernel, ?_⟩
        rw [show (⟨#[49]⟩ : Str) = "1" by decide +kernel, show ("1" : Str) = flipT z i from by rw [ef]; rfl]
        exact g
      · rw [e]
        rw [e] at ef
        refine ⟨_, 1, rfl, by decide +kernel, by decide, ?_⟩
        refine ⟨"10", 1, 48, rfl, rfl, by decide, by decide +kernel, ?_⟩
        rw [show (⟨#[48]⟩ : Str) = "0" by decide +kernel, show ("0" : Str) = flipT z i from by rw [ef]; rfl]
        exact g
    refine step _ ?_
    have l1 : (Txt.slice z none (some (i : Int)) ++ flipT z i).length = (Txt.slice z none (some (i : Int))).length + (flipT z i).length := Array.size_append
    refine ⟨_, _, rfl, rfl, by omega, ?_⟩
    repeat walk_at "vc"
    refine i_slS (by omega) ?_
    exact ⟨_, _, rfl, rfl, by rw [l1]; omega, k⟩
end
theorem filt_range {xs : Array Nat} : ∀ (j a : Nat), a + j ≤ xs.size → ((List.range j).map fun k => a + k).filterMap (xs[·]?) = (xs.toList.drop a).take j
  | 0, a, _ => by simp
  | j + 1, a, h => by
    rw [List.range_succ, List.map_append, List.filterMap_append, filt_range j a (by omega), List.take_succ]
    have e : (xs.toList.drop a)[j]? = xs[a + j]? := by rw [List.getElem?_drop]; simp
    rw [e]
    have q : xs[a + j]? = some (xs[a + j]'(by omega)) := by rw [Array.getElem?_eq_getElem]
    simp [q]
theorem slice_list {z : Str} {a b : Nat} {lo hi : Option Int} (hl : PySem.Builtin.Str.strSliceIndices lo hi 1 z.length = (List.range (b - a)).map fun k => a + k) (hb : b ≤ z.cps.size) (hab : a ≤ b) : (Txt.slice z lo hi).cps.toList = (z.cps.toList.drop a).take (b - a) := by
  unfold Txt.slice
  rw [hl]
  split
  · rename_i h
    have h : b - a = z.length := by simpa using h
    have h' : z.length = z.cps.size := rfl
    have a0 : a = 0 := by omega
    subst a0
    rw [List.drop_zero, List.take_of_length_le (by rw [Array.length_toList]; omega)]
  · exact filt_range (b - a) a (by omega)
theorem slice_to {z : Str} {j : Nat} (h : j ≤ z.cps.size) : (Txt.slice z none (some (j : Int))).cps.toList = z.cps.toList.take j := by
  have h' : z.length = z.cps.size := rfl
  refine (slice_list (a := 0) (b := j) ?_ h (Nat.zero_le _)).trans (by simp)
  unfold PySem.Builtin.Str.strSliceIndices sliceRange
  have e : max 0 (min (if (j : Int) < 0 then (j : Int) + z.length else (j : Int)) (z.length : Int)) = (j : Int) := by
    rw [if_neg (Int.not_lt.mpr (Int.natCast_nonneg _)), Int.min_eq_left (show _ ≤ (z.length : Int) from Int.ofNat_le.mpr h), Int.max_eq_right (Int.natCast_nonneg _)]
  simp only [show (1 : Int) > 0 from by decide, if_true, e]
  have c : (if (0 : Int) < (j : Int) then ((j : Int) - 0 + 1 - 1) / 1 else 0).toNat = j - 0 := by
    rw [Int.ediv_one, Int.add_sub_cancel, Int.sub_zero, Nat.sub_zero]
    split
    · rfl
    · omega
  rw [c]
  refine List.map_congr_left fun k _ => ?_
  omega
theorem slice_from {z : Str} {a : Nat} (h : a ≤ z.cps.size) : (Txt.slice z (some (a : Int)) none).cps.toList = z.cps.toList.drop a := by
  have h' : z.length = z.cps.size := rfl
  refine (slice_list (a := a) (b := z.cps.size) ?_ (Nat.le_refl _) h).trans (by rw [List.take_of_length_le (by rw [List.length_drop, Array.length_toList]; omega)])
  unfold PySem.Builtin.Str.strSliceIndices sliceRange
  have e : max 0 (min (if (a : Int) < 0 then (a : Int) + z.length else (a : Int)) (z.length : Int)) = (a : Int) := by
    rw [if_neg (Int.not_lt.mpr (Int.natCast_nonneg _)), Int.min_eq_left (show _ ≤ (z.length : Int) from Int.ofNat_le.mpr h), Int.max_eq_right (Int.natCast_nonneg _)]
  simp only [show (1 : Int) > 0 from by decide, if_true, e]
  have c : (if (a : Int) < (z.length : Int) then ((z.length : Int) - (a : Int) + 1 - 1) / 1 else 0).toNat = z.cps.size - a := by
    rw [Int.ediv_one, Int.add_sub_cancel, h']
    split
    · rw [← Int.ofNat_sub h]; rfl
    · omega
  rw [c]
  refine List.map_congr_left fun k _ => ?_
  omega
theorem turn_ok {n : Nat} {z : Str} (st : StOk n z) {i : Nat} (hi : i < n) : StOk n (turnT z i) := by
  have hl := st.len
  have a := slice_to (z := z) (j := i) (by omega)
  have b := slice_from (z := z) (a := i + 1) (by omega)
  rw [show ((i + 1 : Nat) : Int) = (i : Int) + 1 from by omega] at b
  have f : (flipT z i).cps.toList = [48] ∨ (flipT z i).cps.toList = [49] := by
    unfold flipT
    split
    · exact .inl (by decide +kernel)
    · exact .inr (by decide +kernel)
  have e : (turnT z i).cps.toList = (z.cps.toList.take i ++ (flipT z i).cps.toList) ++ z.cps.toList.drop (i + 1) := by
    unfold turnT
    show ((_ ++ _) ++ _ : Array Nat).toList = _
    rw [Array.toList_append, Array.toList_append, a, b]
  refine ⟨?_, fun c hc => ?_⟩
  · rw [← Array.length_toList, e, List.length_append, List.length_append, List.length_take, List.length_drop, Array.length_toList]
    have : (flipT z i).cps.toList.length = 1 := by rcases f with f | f <;> rw [f] <;> rfl
    omega
  · rw [e] at hc
    rcases List.mem_append.mp hc with h | h
    · rcases List.mem_append.mp h with h | h
      · exact st.signs c (List.mem_of_mem_take h)
      · rcases f with f | f
        · rw [f] at h; exact .inl (by simpa using h)
        · rw [f] at h; exact .inr (by simpa using h)
    · exact st.signs c (List.mem_of_mem_drop h)
theorem turn_list {n : Nat} {z : Str} (st : StOk n z) {i : Nat} (hi : i < n) : (turnT z i).cps.toList = z.cps.toList.take i ++ (if (z.cps.getD i 0 == 49) = true then 48 else 49) :: z.cps.toList.drop (i + 1) := by
  have hl := st.len
  have a := slice_to (z := z) (j := i) (by omega)
  have b := slice_from (z := z) (a := i + 1) (by omega)
  rw [show ((i + 1 : Nat) : Int) = (i : Int) + 1 from by omega] at b
  have f : (flipT z i).cps.toList = [if (z.cps.getD i 0 == 49) = true then 48 else 49] := by
    unfold flipT
    split
    · decide +kernel
    · decide +kernel
  unfold turnT
  show ((_ ++ _) ++ _ : Array Nat).toList = _
  rw [Array.toList_append, Array.toList_append, a, b, f]
  simp
set_option Elab.async false
set_option linter.all false
set_option maxRecDepth 100000
set_option maxHeartbeats 4000000

noncomputable def StepsAt (H : Hp) (a : Addr) (sts : List (V × Key)) : Prop := ∃ vs, H a = some (.lst vs) ∧ Paired (fun v (s : V × Key) => ∃ b, v = .ref b ∧ H b = some (.tup [s.1, kV s.2])) vs sts
theorem StepsAt.same {H H' : Hp} {a : Addr} {sts : List (V × Key)} (S : Same H H') (h : StepsAt H a sts) : StepsAt H' a sts := by
  obtain ⟨vs, h1, h2⟩ := h
  exact ⟨vs, S _ _ h1, paired_mono (fun v s ⟨b, e, q⟩ => ⟨b, e, S _ _ q⟩) h2⟩
noncomputable def Off3 (F W N : Addr) (H H' : Hp) : Prop := ∀ b o, H b = some o → b ≠ F → b ≠ W → b ≠ N → H' b = some o
noncomputable def fdK (xs : List Key) (as : List Addr) : List (Key × V) := (xs.zip as).map fun p => (p.1, V.ref p.2)
noncomputable def knK (xs : List Key) : List (Key × V) := xs.map fun x => (x, V.bl true)
theorem fdK_len {xs : List Key} {as : List Addr} (h : as.length ≤ xs.length) : (fdK xs as).length = as.length := by
  unfold fdK; rw [List.length_map, List.length_zip]; omega
theorem fdK_keys (xs : List Key) (as : List Addr) : (fdK xs as).map (·.1) = xs.take as.length := by
  unfold fdK
  rw [List.map_map]
  show (xs.zip as).map (fun p => p.1) = _
  induction xs generalizing as with
  | nil => simp
  | cons x xs ih =>
    cases as with
    | nil => simp
    | cons a as => simp [ih]
theorem fdK_snoc {xs : List Key} {as : List Addr} {x : Key} {a : Addr} (h : xs[as.length]? = some x) : fdK xs (as ++ [a]) = fdK xs as ++ [(x, V.ref a)] := by
  unfold fdK
  induction xs generalizing as with
  | nil => simp at h
  | cons y xs ih =>
    cases as with
    | nil => simp at h; subst h; simp
    | cons b as => simp at h; simp [ih h]
theorem fdK_more {xs ys : List Key} {as : List Addr} (h : as.length ≤ xs.length) (p : xs <+: ys) : fdK ys as = fdK xs as := by
  obtain ⟨t, rfl⟩ := p
  unfold fdK
  induction xs generalizing as with
  | nil =>
    have : as = [] := by simpa using h
    subst this
    simp
  | cons y xs ih =>
    cases as with
    | nil => simp
    | cons b as => simp at h; simpa using ih h
theorem valV_keys {kvs : List (Key × V)} {k : Key} : valV kvs k = none ↔ k ∉ kvs.map (·.1) := by
  refine ⟨valV_not, fun h => ?_⟩
  cases e : valV kvs k with
  | none => rfl
  | some v => exact absurd (valV_in e) h
theorem knK_val {xs : List Key} {k : Key} : valV (knK xs) k = none ↔ k ∉ xs := by
  rw [valV_keys]
  unfold knK
  rw [List.map_map]
  show k ∉ xs.map (fun x => x) ↔ _
  rw [List.map_id']
noncomputable def nxK (steps : Key → List (V × Key)) (x : Key) : List Key := (steps x).map (·.2)
noncomputable def spFound (P : Program) (w : World) (K : PySem.W.Frag) (mg : Str → Option Value) (base : Heap) (k : Nat) : Sp := fun vs H Q _ => ∃ (start : Key) (f : Addr) (l : Lm) (cl : List (Str × Addr)) (c : Addr) (r : V → Hp → VK → Prop) (steps : Key → List (V × Key)) (B : Nat),
  vs = [kV start, .ref f] ∧ H f = some (LamO f l cl c) ∧ Calls P w K mg base k f r ∧ B ≤ 100000 ∧
  (∀ x H1 (Q1 : VK), Bf.Reach (nxK steps) start x → Same H H1 → (∀ a H2, Same H1 H2 → StepsAt H2 a (steps x) → Q1 (.ref a) H2) → r (kV x) H1 Q1) ∧
  (∀ xs : List Key, xs.Nodup → (∀ x ∈ xs, Bf.Reach (nxK steps) start x) → xs.length ≤ B) ∧
  ∀ (F : Addr) (as : List Addr) (n : Nat) (H' : Hp), Same H H' → H F = none → (Bf.bfs (nxK steps) start n).length = n → as.length = n → H' F = some (.dK (fdK (Bf.bfs (nxK steps) start n) as)) →
    (∀ (i : Nat) x a, (Bf.bfs (nxK steps) start n)[i]? = some x → as[i]? = some a → StepsAt H' a (steps x)) → Q (.ref F) H'
theorem i_callV {P : Program} {w : World} {K : PySem.W.Frag} {mg : Str → Option Value} {base : Heap} {k i : Nat} {te : TE} {σ : St} {H : Hp} {Q : VK} {f c : Addr} {l : Lm} {cl : List (Str × Addr)} {r : V → Hp → VK → Prop} (hi : σ[i]? = some (some (.ref f))) (C : Calls P w K mg base k f r) (hf : H f = some (LamO f l cl c))
    (q : te σ H fun v H1 => H1 f = some (LamO f l cl c) ∧ r v H1 Q) : tCallV P w K mg base k i te σ H Q := ⟨f, l, cl, c, r, hi, C, hf, q⟩
section
variable {P : Program} {w : World} {K : PySem.W.Frag} {mg : Str → Option Value} {base : Heap} {TT : Addr}
theorem sc_found_from : FnScope ["start", "steps_of", "found", "waiting", "known", "at", "here", "steps", "step"] ["start", "steps_of"] (defScope (top 14)) := ⟨rfl, rfl, rfl, by decide +kernel, rfl, by decide +kernel, by decide +kernel⟩
theorem ok_found {kl : Nat} {f : Addr} {fd : FuncData} (Fu : Fun K "found_from" "found_from" (top 14) f fd) (T : Txt K mg TT) : FnOk P w K mg base CX0 (kl + 1) f fd ["start", "steps_of"] (spFound P w K mg base kl) := by
  have S := sc_found_from
  refine Fu.ok S (fun vs H Q E h => ?_) (fun cdv A outer s H vs Q E hr h => ?_)
  · obtain ⟨start, fl, l, cl, c, r, steps, B, rfl, _⟩ := h
    rfl
  · obtain ⟨start, fl, l, cl, c, r, steps, B, rfl, hfl, hC, hB, hst, hfew, k⟩ := h
    have hu := hu_of hr
    refine' ⟨?_, ?bb, ?_⟩
    case bb =>
      refine' pss_cons ?s1 ?r1
      case s1 =>
        refine' ps_set (i := 2) ?n ?r ?l ?e ?s ?f
        case n => exact S.nd
        case r => rfl
        case l => first | exact Or.inl rfl | exact Or.inr rfl
        case s => rfl
        case f => first | exact Or.inl rfl | exact Or.inr rfl
        case e => exact pe_dnewK
      case r1 =>
        with_reducible refine' pss_cons ?s3 ?r3
        case s3 =>
          refine' ps_set (i := 3) ?n ?r ?l ?e ?s ?f
          case n => exact S.nd
          case r => rfl
          case l => first | exact Or.inl rfl | exact Or.inr rfl
          case s => rfl
          case f => first | exact Or.inl rfl | exact Or.inr rfl
          case e => exact (pe_lst (pa_cons (pv 0) pa_nil se_name))
        case r3 =>
          with_reducible refine' pss_cons ?s5 ?r5
          case s5 =>
            refine' ps_set (i := 4) ?n ?r ?l ?e ?s ?f
            case n => exact S.nd
            case r => rfl
            case l => first | exact Or.inl rfl | exact Or.inr rfl
            case s => rfl
            case f => first | exact Or.inl rfl | exact Or.inr rfl
            case e => exact (pe_disp (pps_cons (pv 0) pe_bl pps_nil) rfl rfl (by simp) (by decide))
          case r5 =>
            with_reducible refine' pss_cons ?s7 ?r7
            case s7 =>
              refine' ps_set (i := 5) ?n ?r ?l ?e ?s ?f
              case n => exact S.nd
              case r => rfl
              case l => first | exact Or.inl rfl | exact Or.inr rfl
              case s => rfl
              case f => first | exact Or.inl rfl | exact Or.inr rfl
              case e => exact pe_int
            case r7 =>
              with_reducible refine' pss_cons ?s9 ?r9
              case s9 =>
                refine' ps_while PassesOwn.never ?c10 ?b10
                case c10 => exact (pt_cmpR op_lt (pv 5) (pe_callB call_len_seq (by rfl) T.n_len PySem.boot_len (pa_cons (pv 3) pa_nil se_name)) (nomark _))
                case b10 =>
                  with_reducible refine' pss_cons ?s11 ?r11
                  case s11 =>
                    refine' ps_set (i := 6) ?n ?r ?l ?e ?s ?f
                    case n => exact S.nd
                    case r => rfl
                    case l => first | exact Or.inl rfl | exact Or.inr rfl
                    case s => rfl
                    case f => first | exact Or.inl rfl | exact Or.inr rfl
                    case e => exact (pe_ix ix_list (pv 3) (pv 5) (fun _ _ => rfl))
                  case r11 =>
                    with_reducible refine' pss_cons ?s13 ?r13
                    case s13 =>
                      refine' ps_set (i := 7) ?n ?r ?l ?e ?s ?f
                      case n => exact S.nd
                      case r => rfl
                      case l => first | exact Or.inl rfl | exact Or.inr rfl
                      case s => rfl
                      case f => first | exact Or.inl rfl | exact Or.inr rfl
                      case e => exact (pe_callV (k := kl) (i := 1) (hr.mono (by omega)) pass0 (pv 1) (pv 6))
                    case r13 =>
                      with_reducible refine' pss_cons ?s15 ?r15
                      case s15 =>
                        exact (ps_dput hu (pv 2) (pv 6) (pv 7) rfl)
                      case r15 =>
                        with_reducible refine' pss_cons ?s17 ?r17
                        case s17 =>
                          refine' ps_for PassesOwn.never rfl ?i18 ?g18 ?b18 ?h18
                          case h18 => intro _; rfl
                          case i18 => exact (pi_list (pv 7))
                          case g18 => exact (pg_name (i := 8) S.nd rfl (by first | exact Or.inl rfl | exact Or.inr rfl))
                          case b18 =>
                            with_reducible refine' pss_one ?s19
                            case s19 =>
                              with_reducible refine' ps_if ?c20 ?a20 ?o20
                              case c20 => exact (pt_cmp (pc_dnotin hu (pe_ix ix_tup (pv 8) pe_int (fun _ _ => rfl)) (pv 4)))
                              case a20 =>
                                with_reducible refine' pss_cons ?s21 ?r21
                                case s21 =>
                                  exact (ps_dput hu (pv 4) (pe_ix ix_tup (pv 8) pe_int (fun _ _ => rfl)) pe_bl rfl)
                                case r21 =>
                                  with_reducible refine' pss_one ?s23
                                  case s23 =>
                                    exact (ps_expr (pe_bm PySem.F.plainAttrs_list PySem.F.slot_list_append PySem.F.type_list_append mt_append (pv 3) (pa_cons (pe_ix ix_tup (pv 8) pe_int (fun _ _ => rfl)) pa_nil)))
                              case o20 =>
                                exact pss_nil
                        case r17 =>
                          with_reducible refine' pss_one ?s25
                          case s25 =>
                            exact (ps_aug (i := 5) S.nd rfl (by first | exact Or.inl rfl | exact Or.inr rfl) pe_int ip_add)
              case r9 =>
                with_reducible refine' pss_one ?s27
                case s27 =>
                  exact (ps_ret (pv 2))
    try dsimp only [cxOf, Cx.nox, Cx.wish]
    rw [show L2.start ["start", "steps_of", "found", "waiting", "known", "at", "here", "steps", "step"] [kV start, V.ref fl] = [some (kV start), some (.ref fl), none, none, none, none, none, none, none] from rfl]
    have big : 200000 < sizeLine := by decide
    refine s_seq (s_asg ?_)
    intro F hF
    refine s_name ?_
    generalize hE : upd H F _ = H1
    obtain ⟨S1, q1⟩ := upd_pair hF hE
    clear hE
    repeat walk_at "vc"
    refine ⟨by simp [sizeLine], fun W hW => ?_⟩
    generalize hE : upd H1 W _ = H2
    obtain ⟨S2, q2⟩ := upd_pair hW hE
    clear hE
    repeat walk_at "vc"
    refine fun N hN => ?_
    refine ⟨_, rfl, ?_⟩
    refine ⟨upd_same, [(start, .bl true)], rfl, by simp, ?_⟩
    rw [upd_upd]
    refine s_name ?_
    generalize hE : upd H2 N _ = H3
    obtain ⟨S3, q3⟩ := upd_pair hN hE
    clear hE
    repeat walk_at "vc"
    have S03 : Same H H3 := S1.trans (S2.trans S3)
    have FW : F ≠ W := ne_of_none q1 hW
    have FN : F ≠ N := ne_of_none (S2 _ _ q1) hN
    have WN : W ≠ N := ne_of_none q2 hN
    have W0 : H W = none := by
      cases e : H W with
      | none => rfl
      | some o => rw [S1 _ _ e] at hW; cases hW
    have N0 : H N = none := by
      cases e : H N with
      | none => rfl
      | some o => rw [(S1.trans S2) _ _ e] at hN; cases hN
    have off : ∀ {Ha Hb : Hp}, Same H Ha → Off3 F W N Ha Hb → Same H Hb := fun sa o b u e => o b u (sa b u e) (ne_of_none e hF) (ne_of_none e W0) (ne_of_none e N0)
    let nx := nxK steps
    let bf := Bf.bfs nx start
    have reach : ∀ n x, x ∈ bf n → Bf.Reach nx start x := fun n x h => Bf.bfs_reach n x h
    have fewB : ∀ n, (bf n).length ≤ B := fun n => hfew _ (Bf.bfs_nodup n) (reach n)
    refine ⟨fun m σ H' => ∃ (n : Nat) (as : List Addr) (x6 x7 x8 : Option V), σ = [some (kV start), some (.ref fl), some (.ref F), some (.ref W), some (.ref N), some (.int (n : Int)), x6, x7, x8] ∧ m = B + 1 - n ∧ n ≤ (bf n).length ∧ Same H H' ∧ H' F = some (.dK (fdK (bf n) as)) ∧ as.length = n ∧
      H' W = some (.lst ((bf n).map kV)) ∧ H' N = some (.dK (knK (bf n))) ∧ ∀ (i : Nat) x a, (bf n)[i]? = some x → as[i]? = some a → StepsAt H' a (steps x),
      ⟨_, 0, [], none, none, none, rfl, rfl, Nat.zero_le _, S03, S3 _ _ (S2 _ _ q1), rfl, S3 _ _ q2, q3, fun i x a _ e => nomatch e⟩, ?_⟩
    rintro m σ H' ⟨n, as, x6, x7, x8, rfl, rfl, hn, SH, hF', las, hW', hN', hsts⟩
    repeat walk_at "vc"
    rw [List.length_map]
    by_cases cn : n < (bf n).length
    case neg =>
      refine ifF (decide_eq_false (by omega)) ?_
      repeat walk_at "vc"
      have e : (bf n).length = n := by omega
      exact k F as n H' SH hF e las hF' hsts
    refine ifT (decide_eq_true (by omega)) ?_
    refine ⟨fun σ' H'' => ∃ (as : List Addr) (x6 x7 x8 : Option V), σ' = [some (kV start), some (.ref fl), some (.ref F), some (.ref W), some (.ref N), some (.int ((n + 1 : Nat) : Int)), x6, x7, x8] ∧ n + 1 ≤ (bf (n + 1)).length ∧ Same H H'' ∧ H'' F = some (.dK (fdK (bf (n + 1)) as)) ∧ as.length = n + 1 ∧
      H'' W = some (.lst ((bf (n + 1)).map kV)) ∧ H'' N = some (.dK (knK (bf (n + 1)))) ∧ ∀ (i : Nat) x a, (bf (n + 1))[i]? = some x → as[i]? = some a → StepsAt H'' a (steps x), fun σ' H'' h => ?_, ?_⟩
    · obtain ⟨as, x6, x7, x8, e1, e2, e3, e4, e5, e6, e7, e8⟩ := h
      exact ⟨B + 1 - (n + 1), by have := fewB n; omega, n + 1, as, x6, x7, x8, e1, rfl, e2, e3, e4, e5, e6, e7, e8⟩
    obtain ⟨x, hx⟩ : ∃ x, (bf n)[n]? = some x := ⟨_, List.getElem?_eq_getElem cn⟩
    have hbs : bf (n + 1) = Bf.addNew (bf n) (nx x) := Bf.bfs_succ hx
    repeat walk_at "vc"
    refine i_ixL (v := kV x) (SqL.of hW') (atI_nat (by rw [List.getElem?_map, hx]; rfl)) ?_
    repeat walk_at "vc"
    refine i_callV rfl hC (SH _ _ hfl) (i_var rfl ⟨SH _ _ hfl, hst x H' _ (reach n x (List.mem_of_getElem? hx)) SH fun a H4 S4 st4 => ?_⟩)
    repeat walk_at "vc"
    refine s_dput (i_var rfl (i_var rfl (i_var rfl ?_)))
    refine ⟨F, _, rfl, DPut.k (k := x) (S4 _ _ hF') (by rw [fdK_len (by omega)]; have := fewB n; omega), ?_⟩
    have pn : putK (fdK (bf n) as) x (V.ref a) = fdK (bf n) (as ++ [a]) := by
      rw [fdK_snoc (by rw [las]; exact hx)]
      refine putK_new _ (valV_keys.mpr ?_)
      rw [fdK_keys, las]
      intro hm
      obtain ⟨i, hi, e⟩ := List.mem_iff_getElem.mp hm
      rw [List.length_take] at hi
      rw [List.getElem_take] at e
      have e2 := (List.getElem?_eq_some_iff.mp hx).2
      have := (List.getElem_inj (Bf.bfs_nodup (nx := nx) (s := start) n)).mp (e.trans e2.symm)
      omega
    rw [pn]
    -- what the steps' list is not
    obtain ⟨vs, ha, pr⟩ := id st4
    have neW : ∀ {Hx : Hp} {ws : List Key}, Hx W = some (.lst (ws.map kV)) → ws ≠ [] → ∀ {b : Addr} {sts : List (V × Key)}, StepsAt Hx b sts → b ≠ W := fun {Hx ws} hw ne {b sts} ⟨us, hb, pu⟩ z => by
      rw [z, hw] at hb
      cases hb
      cases ws with
      | nil => exact ne rfl
      | cons y ws =>
        cases pu with
        | cons h _ =>
          obtain ⟨c, e, _⟩ := h
          cases y <;> cases e
    have neD : ∀ {Hx : Hp} {D : Addr} {kvs : List (Key × V)}, Hx D = some (.dK kvs) → ∀ {b : Addr} {sts : List (V × Key)}, StepsAt Hx b sts → b ≠ D := fun {Hx D kvs} hd {b sts} ⟨us, hb, _⟩ z => by
      rw [z, hd] at hb
      cases hb
    have keepS : ∀ {Ha Hb : Hp} {ws : List Key} {k1 k2 : List (Key × V)}, Ha W = some (.lst (ws.map kV)) → ws ≠ [] → Ha F = some (.dK k1) → Ha N = some (.dK k2) → Off3 F W N Ha Hb → ∀ {b : Addr} {sts : List (V × Key)}, StepsAt Ha b sts → StepsAt Hb b sts := fun {Ha Hb ws k1 k2} hw ne h1 h2 o {b sts} st => by
      have n1 := neW hw ne st
      have n2 := neD h1 st
      have n3 := neD h2 st
      obtain ⟨us, hb, pu⟩ := st
      refine ⟨us, o b _ hb n2 n1 n3, paired_mono (fun v s ⟨c, e, q⟩ => ⟨c, e, o c _ q (fun z => ?_) (fun z => ?_) fun z => ?_⟩) pu⟩
      · rw [z, h1] at q; cases q
      · rw [z, hw] at q; cases q
      · rw [z, h2] at q; cases q
    have bne : bf n ≠ [] := fun z => by rw [z] at cn; simp at cn
    have hF4 := S4 _ _ hF'
    have hW4 := S4 _ _ hW'
    have hN4 := S4 _ _ hN'
    have off4 : Off3 F W N H4 (upd H4 F (.dK (fdK (bf n) (as ++ [a])))) := fun b o e h1 _ _ => by rw [upd_ne h1]; exact e
    have hF5 : upd H4 F (.dK (fdK (bf n) (as ++ [a]))) F = some (.dK (fdK (bf n) (as ++ [a]))) := upd_same
    have hW5 : upd H4 F (.dK (fdK (bf n) (as ++ [a]))) W = some (.lst ((bf n).map kV)) := by rw [upd_ne FW.symm]; exact hW4
    have hN5 : upd H4 F (.dK (fdK (bf n) (as ++ [a]))) N = some (.dK (knK (bf n))) := by rw [upd_ne FN.symm]; exact hN4
    have st5 := keepS hW4 bne hF4 hN4 off4 st4
    have sts5 : ∀ (i : Nat) y b, (bf n)[i]? = some y → (as ++ [a])[i]? = some b → StepsAt (upd H4 F (.dK (fdK (bf n) (as ++ [a])))) b (steps y) := fun i y b e1 e2 => by
      by_cases ci : i < as.length
      · rw [List.getElem?_append_left ci] at e2
        exact keepS hW4 bne hF4 hN4 off4 ((hsts i y b e1 e2).same S4)
      · rw [List.getElem?_append_right (by omega)] at e2
        have : i = n := by
          have := (List.getElem?_eq_some_iff.mp e2).1
          simp at this
          omega
        subst this
        rw [hx] at e1
        cases e1
        rw [las, Nat.sub_self] at e2
        cases e2
        exact st5
    have SH5 : Same H (upd H4 F (.dK (fdK (bf n) (as ++ [a])))) := off (SH.trans S4) off4
    generalize upd H4 F (.dK (fdK (bf n) (as ++ [a]))) = H5 at *
    obtain ⟨vs5, ha5, pr5⟩ := id st5
    refine s_seq (s_for (s_list (i_var rfl ⟨a, rfl, ⟨_, SqL.of ha5⟩, ?_⟩)))
    refine for_list (xs := vs5) (fun i σ' H' => ∃ x8, σ' = [some (kV start), some (.ref fl), some (.ref F), some (.ref W), some (.ref N), some (.int (n : Int)), some (kV x), some (.ref a), x8] ∧ Off3 F W N H5 H' ∧ H' F = some (.dK (fdK (bf n) (as ++ [a]))) ∧
      H' W = some (.lst ((Bf.addNew (bf n) ((nx x).take i)).map kV)) ∧ H' N = some (.dK (knK (Bf.addNew (bf n) ((nx x).take i))))) ⟨_, rfl, fun b o e _ _ _ => e, hF5, hW5, hN5⟩ (fun i σ' H' _ pv => ?_) (fun i v σ' H' hv pv => ?_) (fun σ' H' pv => ?_)
    · obtain ⟨_, _, o, _⟩ := pv
      exact SqL.of (o a _ ha5 (neD hF5 st5) (neW hW5 bne st5) (neD hN5 st5))
    · obtain ⟨x8, rfl, o, e1, e2, e3⟩ := pv
      obtain ⟨⟨nm, y⟩, hy, b, rfl, hb⟩ := paired_get pr5 hv
      have hb' : H' b = some (.tup [nm, kV y]) := o b _ hb (fun z => by rw [z, hF5] at hb; cases hb) (fun z => by rw [z, hW5] at hb; cases hb) (fun z => by rw [z, hN5] at hb; cases hb)
      have hny : (nx x)[i]? = some y := by
        show ((steps x).map (·.2))[i]? = _
        rw [List.getElem?_map, hy]; rfl
      have ext : Bf.addNew (bf n) ((nx x).take (i + 1)) = Bf.addNew (Bf.addNew (bf n) ((nx x).take i)) [y] := by
        rw [List.take_succ, hny, Bf.addNew_append]; rfl
      have lenN : (Bf.addNew (bf n) ((nx x).take i)).length ≤ B := hfew _ (Bf.addNew_nodup _ _ (Bf.bfs_nodup n)) fun z hz => by
        rcases (Bf.addNew_mem _ _ _).mp hz with h | h
        · exact reach n z h
        · exact .step (reach n x (List.mem_of_getElem? hx)) (List.mem_of_mem_take h)
      repeat walk_at "vc"
      refine i_dnotin (i_op (i_var rfl (i_c (i_ixT hb' rfl (i_var rfl ?_)))))
      refine ⟨N, _, rfl, DGet.k (k := y) e3, _, rfl, ?_⟩
      by_cases cy : y ∈ Bf.addNew (bf n) ((nx x).take i)
      · rw [Bf.addNew_old cy] at ext
        refine ifF ?_ ?_
        · cases e : valV (knK (Bf.addNew (bf n) ((nx x).take i))) y with
          | none => exact absurd cy (knK_val.mp e)
          | some v => rfl
        repeat walk_at "vc"
        refine ⟨_, rfl, o, e1, ?_, ?_⟩
        · rw [ext]; exact e2
        · rw [ext]; exact e3
      · rw [Bf.addNew_one cy] at ext
        have nn := knK_val.mpr cy
        refine ifT (by rw [nn]; rfl) ?_
        repeat walk_at "vc"
        refine s_dput (i_c (i_var rfl (i_op (i_var rfl (i_c (i_ixT hb' rfl ?_))))))
        refine ⟨N, _, rfl, DPut.k (k := y) e3 (by unfold knK; rw [List.length_map]; omega), ?_⟩
        have e2' : upd H' N (.dK (putK (knK (Bf.addNew (bf n) ((nx x).take i))) y (.bl true))) W = some (.lst ((Bf.addNew (bf n) ((nx x).take i)).map kV)) := by rw [upd_ne WN]; exact e2
        have hb'' : upd H' N (.dK (putK (knK (Bf.addNew (bf n) ((nx x).take i))) y (.bl true))) b = some (.tup [nm, kV y]) := by rw [upd_ne (fun z => by rw [z, e3] at hb'; cases hb')]; exact hb'
        refine s_drop (i_bm (i_var rfl ⟨i_tyL e2', ?_⟩))
        refine i_cons (i_op (i_var rfl (i_c (i_ixT hb'' rfl (i_nil (i_app e2' (by rw [List.length_map]; omega) ?_))))))
        refine ⟨_, rfl, fun c u e h1 h2 h3 => by rw [upd_ne h2, upd_ne h3]; exact o c u e h1 h2 h3, by rw [upd_ne FW, upd_ne FN]; exact e1, ?_, ?_⟩
        · rw [upd_same, ext, List.map_append]; rfl
        · rw [upd_ne WN.symm, upd_same, putK_new _ nn, ext]
          unfold knK
          rw [List.map_append]; rfl
    · obtain ⟨x8, rfl, o, e1, e2, e3⟩ := pv
      have lv : vs5.length = (nx x).length := by
        show _ = ((steps x).map (·.2)).length
        rw [List.length_map]; exact paired_len pr5
      rw [lv, List.take_of_length_le (Nat.le_refl _), ← hbs] at e2 e3
      refine ⟨_, rfl, ?_⟩
      refine i_c ⟨_, _, rfl, rfl, ?_⟩
      have pre : bf n <+: bf (n + 1) := Bf.bfs_pre1 n
      have l1 : n + 1 ≤ (bf (n + 1)).length := by
        have := pre.length_le
        omega
      refine ⟨as ++ [a], _, _, _, by rw [show ((n + 1 : Nat) : Int) = (n : Int) + 1 from rfl]; rfl, l1, off SH5 o, ?_, by rw [List.length_append, las]; rfl, e2, e3, fun i y b h1 h2 => ?_⟩
      · rw [fdK_more (by rw [List.length_append, las]; simp; omega) pre]; exact e1
      · have hi : i < n + 1 := by
          have := (List.getElem?_eq_some_iff.mp h2).1
          rw [List.length_append, las] at this
          simpa using this
        exact keepS hW5 bne hF5 hN5 o (sts5 i y b (Bf.pre_get' pre (by omega) h1) h2)
end
set_option Elab.async false
set_option linter.all false
set_option maxRecDepth 100000
set_option maxHeartbeats 4000000

structure Sh where
  ins : List Str
  outs : List Str
  z : Str
  nodes : List (List (Str × Nat))
noncomputable def Sh.ws (s : Sh) : List Str := s.ins ++ s.outs
noncomputable def Sh.node (s : Sh) (i : Nat) : List (Str × Nat) := s.nodes.getD i []
noncomputable def Sh.nx (s : Sh) (i : Nat) : List Nat := (s.node i).map (·.2)
abbrev Sh.R (s : Sh) : Nat → Prop := Bf.Reach s.nx 0
structure ShOk (s : Sh) : Prop where
  nd : s.ws.Nodup
  w1 : 1 ≤ s.ws.length
  w11 : s.ws.length ≤ 11
  st : StOk s.ws.length s.z
  n1 : 1 ≤ s.nodes.length
  n100 : s.nodes.length ≤ 100
  names : ∀ node ∈ s.nodes, ∀ p ∈ node, p.1 ∈ s.ws
  tos : ∀ node ∈ s.nodes, ∀ p ∈ node, p.2 < s.nodes.length
  few : ∀ node ∈ s.nodes, node.length ≤ 100
noncomputable def Lab (s : Sh) (lam : Nat → Str) : Prop := lam 0 = s.z ∧ ∀ i, s.R i → ∀ p ∈ s.node i, lam p.2 = turnT (lam i) (s.ws.idxOf p.1)
noncomputable def nodeV (node : List (Str × Nat)) : List (V × Key) := node.map fun p => (V.str p.1, Sum.inl (p.2 : Int))
structure ShAt (H : Hp) (a li lo ln : Addr) (nas : List Addr) (s : Sh) : Prop where
  ha : H a = some (.tup [.ref li, .ref lo, .str s.z, .ref ln])
  hi : H li = some (.lst (s.ins.map V.str))
  ho : H lo = some (.lst (s.outs.map V.str))
  hn : H ln = some (.lst (nas.map V.ref))
  nodes : Paired (fun na node => StepsAt H na (nodeV node)) nas s.nodes
theorem ShAt.mono {H H' : Hp} {a li lo ln : Addr} {nas : List Addr} {s : Sh} (hl : ∀ b xs, H b = some (.lst xs) → H' b = some (.lst xs)) (ht : ∀ b xs, H b = some (.tup xs) → H' b = some (.tup xs)) (h : ShAt H a li lo ln nas s) : ShAt H' a li lo ln nas s :=
  ⟨ht _ _ h.ha, hl _ _ h.hi, hl _ _ h.ho, hl _ _ h.hn, paired_mono (fun na node ⟨vs, h1, h2⟩ => ⟨vs, hl _ _ h1, paired_mono (fun v st ⟨b, e, q⟩ => ⟨b, e, ht _ _ q⟩) h2⟩) h.nodes⟩
theorem ShAt.same {H H' : Hp} {a li lo ln : Addr} {nas : List Addr} {s : Sh} (S : Same H H') (h : ShAt H a li lo ln nas s) : ShAt H' a li lo ln nas s := h.mono (fun b xs e => S b _ e) (fun b xs e => S b _ e)
theorem Sh.node_of {s : Sh} {i : Nat} {node : List (Str × Nat)} (h : s.nodes[i]? = some node) : s.node i = node := by
  unfold Sh.node; rw [List.getD_eq_getElem?_getD, h]; rfl
theorem Sh.node_mem {s : Sh} {i : Nat} (h : i < s.nodes.length) : s.node i ∈ s.nodes := by
  unfold Sh.node; rw [List.getD_eq_getElem?_getD, List.getElem?_eq_getElem h]; exact List.getElem_mem h
theorem Sh.R_lt {s : Sh} (ok : ShOk s) {i : Nat} (r : s.R i) : i < s.nodes.length := by
  induction r with
  | start => exact ok.n1
  | @step a b _ hb ih =>
    obtain ⟨p, hp, rfl⟩ := List.mem_map.mp hb
    exact ok.tos _ (Sh.node_mem ih) p hp
theorem Sh.len_row {s : Sh} {lam : Nat → Str} (ok : ShOk s) (l : Lab s lam) {i : Nat} (r : s.R i) : StOk s.ws.length (lam i) := by
  induction r with
  | start => rw [l.1]; exact ok.st
  | @step a b ra hb ih =>
    obtain ⟨p, hp, rfl⟩ := List.mem_map.mp hb
    rw [l.2 a ra p hp]
    exact turn_ok ih (List.idxOf_lt_length_of_mem (ok.names _ (Sh.node_mem (Sh.R_lt ok ra)) p hp))
theorem idx_at {ws : List Str} {x : Str} (h : x ∈ ws) : ws[ws.idxOf x]? = some x := by
  have hi := List.idxOf_lt_length_of_mem h
  rw [List.getElem?_eq_getElem hi]; exact congrArg some (List.getElem_idxOf hi)
theorem idx_first {ws : List Str} {x : Str} : ∀ m, m < ws.idxOf x → ws[m]? ≠ some x := fun m hm e => by
  have h1 := List.not_of_lt_findIdx (xs := ws) (p := (· == x)) (i := m) hm
  obtain ⟨h2, e2⟩ := List.getElem?_eq_some_iff.mp e
  rw [e2] at h1
  simp at h1
noncomputable def spBehind : Sp := fun vs H Q _ => ∃ (a li lo ln : Addr) (nas : List Addr) (s : Sh) (row nm : Str), vs = [.ref a, .str row, .str nm] ∧ ShAt H a li lo ln nas s ∧ ShOk s ∧ StOk s.ws.length row ∧ nm ∈ s.ws ∧ ∀ H', Same H H' → Q (.str (turnT row (s.ws.idxOf nm))) H'
section
variable {P : Program} {w : World} {K : PySem.W.Frag} {mg : Str → Option Value} {base : Heap} {TT : Addr}
theorem sc_row_behind : FnScope ["sheet", "row", "name"] ["sheet", "row", "name"] (defScope (top 21)) := ⟨rfl, rfl, rfl, by decide +kernel, rfl, by decide +kernel, by decide +kernel⟩
theorem ok_behind {f : Addr} {fd : FuncData} (Fu : Fun K "row_behind" "row_behind" (top 21) f fd) (T : Txt K mg TT) (f_turned_at : Fn P w K mg base "turned_at" ["standing", "place"] 1 spTurned) : FnOk P w K mg base CX0 2 f fd ["sheet", "row", "name"] spBehind := by
  have S := sc_row_behind
  refine Fu.ok S (fun vs H Q E h => ?_) (fun cdv A outer s H vs Q E hr h => ?_)
  · obtain ⟨a, li, lo, ln, nas, sh, row, nm, rfl, _⟩ := h
    rfl
  · obtain ⟨a, li, lo, ln, nas, sh, row, nm, rfl, at_, ok, st, hnm, k⟩ := h
    refine ⟨_, (pss_one (ps_ret (pe_fn f_turned_at (hr.mono (by first | decide | omega)) (by rfl) (pa_cons (pv 1) (pa_cons (pe_bm PySem.F.plainAttrs_list PySem.F.slot_list_index PySem.F.type_list_index mt_index (pe_op op_cat (pe_ix ix_tup (pv 0) pe_int (fun _ _ => rfl)) (pe_ix ix_tup (pv 0) pe_int (fun _ _ => rfl))) (pa_cons (pv 2) pa_nil se_name)) pa_nil se_call) se_name)))), ?_⟩
    try dsimp only [cxOf, Cx.nox, Cx.wish]
    rw [show L2.start ["sheet", "row", "name"] [V.ref a, V.str row, V.str nm] = [some (.ref a), some (.str row), some (.str nm)] from rfl]
    have big : 1000 < sizeLine := by decide
    have lw : (sh.ins.map V.str).length + (sh.outs.map V.str).length = sh.ws.length := by rw [List.length_map, List.length_map]; unfold Sh.ws; rw [List.length_append]
    have ha := at_.ha
    repeat walk_at "vc"
    refine i_cat at_.hi at_.ho (by rw [lw]; have := ok.w11; omega) fun p hp => ?_
    rw [← List.map_append]
    show tyV K "list" (.ref p) _ ∧ _
    refine ⟨i_tyL upd_same, ?_⟩
    repeat walk_at "vc"
    refine ⟨p, sh.ws, nm, sh.ws.idxOf nm, rfl, rfl, upd_same, idx_at hnm, idx_first, by have := ok.w11; omega, ?_⟩
    repeat walk_at "vc"
    exact ⟨row, _, _, rfl, st, List.idxOf_lt_length_of_mem hnm, ok.w11, k _ (fresh_same hp)⟩
end
set_option Elab.async false
set_option linter.all false
set_option maxRecDepth 100000
set_option maxHeartbeats 4000000

noncomputable def lmRows : Lm := match defBody (top 22) with
  | _ :: .Assign _ (.Call _ [_, .Lambda p b sc pos] _ _) _ :: _ => ⟨("rows_found" ++ ".<locals>.") ++ "<lambda>", p, b, sc, pos⟩
  | _ => ⟨"", { posonlyargs := [], args := [], vararg := none, kwonlyargs := [], kw_defaults := [], kwarg := none, defaults := [] }, .Constant .none 0 ⟨0, 0, 0, 0⟩, defScope (top 0), ⟨0, 0, 0, 0⟩⟩
theorem only1 {x y z : Str} (h : ([(x, NameKind.local), (y, NameKind.free)] : List (Str × NameKind)).lookup z = some .free) : z = y := by
  rw [List.lookup_cons] at h
  by_cases e : (z == x) = true
  · rw [e] at h; cases h
  · have e : (z == x) = false := by simpa using e
    rw [e] at h
    simp only at h
    rw [List.lookup_cons] at h
    by_cases e2 : (z == y) = true
    · exact eq_of_beq e2
    · have e2 : (z == y) = false := by simpa using e2
      rw [e2] at h; cases h
theorem lm_scope : LmScope "node" "sheet" lmRows.scope := ⟨rfl, rfl, rfl, rfl, rfl, by decide, by decide +kernel, fun z h => only1 h⟩
structure Tk (T : Addr) (H H' : Hp) : Prop where
  old : ∀ b o, H b = some o → b ≠ T → H' b = some o
  tab : TbAt T lmRows H'
theorem tb_T {T : Addr} {H : Hp} {l : Lm} (t : TbAt T l H) : ∃ ps, H T = some (.tbl ps) := by rcases t with e | ⟨c, e, _⟩ <;> exact ⟨_, e⟩
theorem tb_ne {T b : Addr} {H : Hp} {l : Lm} {o : HO} (t : TbAt T l H) (h : H b = some o) (n : ∀ ps, o ≠ .tbl ps) : b ≠ T := fun z => by
  obtain ⟨ps, e⟩ := tb_T t
  rw [z, e] at h
  exact n ps (Option.some.inj h).symm
theorem tb_keep {T : Addr} {H H' : Hp} {l : Lm} (t : TbAt T l H) (S : Same H H') : TbAt T l H' := by
  rcases t with e | ⟨c, e, q⟩
  · exact .inl (S _ _ e)
  · exact .inr ⟨c, S _ _ e, S _ _ q⟩
theorem Tk.lst {T : Addr} {H H' : Hp} (t : TbAt T lmRows H) (k : Tk T H H') : ∀ b xs, H b = some (.lst xs) → H' b = some (.lst xs) := fun b xs e => k.old b _ e (tb_ne t e fun _ z => nomatch z)
theorem Tk.tup {T : Addr} {H H' : Hp} (t : TbAt T lmRows H) (k : Tk T H H') : ∀ b xs, H b = some (.tup xs) → H' b = some (.tup xs) := fun b xs e => k.old b _ e (tb_ne t e fun _ z => nomatch z)
theorem Tk.dK {T : Addr} {H H' : Hp} (t : TbAt T lmRows H) (k : Tk T H H') : ∀ b xs, H b = some (.dK xs) → H' b = some (.dK xs) := fun b xs e => k.old b _ e (tb_ne t e fun _ z => nomatch z)
theorem Tk.of {T : Addr} {H H' : Hp} (t : TbAt T lmRows H) (S : Same H H') : Tk T H H' := ⟨fun b o e _ => S b o e, tb_keep t S⟩
theorem Tk.trans {T : Addr} {H H1 H2 : Hp} (a : Tk T H H1) (b : Tk T H1 H2) : Tk T H H2 := ⟨fun c o e n => b.old c o (a.old c o e n) n, b.tab⟩
noncomputable def stK (s : Sh) : Key → List (V × Key)
  | .inl i => nodeV (s.node i.toNat)
  | .inr _ => []
theorem stK_nat (s : Sh) (i : Nat) : stK s (Sum.inl (i : Int)) = nodeV (s.node i) := by show nodeV (s.node (i : Int).toNat) = _; rw [Int.toNat_natCast]
theorem nxK_mem {s : Sh} {i : Nat} {y : Key} : y ∈ nxK (stK s) (Sum.inl (i : Int)) ↔ ∃ p ∈ s.node i, y = Sum.inl (p.2 : Int) := by
  unfold nxK
  rw [stK_nat]
  unfold nodeV
  rw [List.map_map]
  constructor
  · intro h
    obtain ⟨p, hp, e⟩ := List.mem_map.mp h
    exact ⟨p, hp, e.symm⟩
  · rintro ⟨p, hp, rfl⟩
    exact List.mem_map.mpr ⟨p, hp, rfl⟩
theorem reach_key {s : Sh} {x : Key} (r : Bf.Reach (nxK (stK s)) (Sum.inl 0) x) : ∃ i : Nat, x = Sum.inl (i : Int) ∧ s.R i := by
  induction r with
  | start => exact ⟨0, rfl, .start⟩
  | @step a b _ hb ih =>
    obtain ⟨i, rfl, ri⟩ := ih
    obtain ⟨p, hp, rfl⟩ := nxK_mem.mp hb
    exact ⟨p.2, rfl, .step ri (List.mem_map.mpr ⟨p, hp, rfl⟩)⟩
theorem key_reach {s : Sh} {i : Nat} (r : s.R i) : Bf.Reach (nxK (stK s)) (Sum.inl 0) (Sum.inl (i : Int)) := by
  induction r with
  | start => exact .start
  | @step a b _ hb ih =>
    obtain ⟨p, hp, rfl⟩ := List.mem_map.mp hb
    exact .step ih (nxK_mem.mpr ⟨p, hp, rfl⟩)
theorem keys_few {s : Sh} (ok : ShOk s) {xs : List Key} (nd : xs.Nodup) (h : ∀ x ∈ xs, ∃ i : Nat, x = Sum.inl (i : Int) ∧ s.R i) : xs.length ≤ s.nodes.length := by
  have := Bf.pigeon xs ((List.range s.nodes.length).map fun (i : Nat) => (Sum.inl (i : Int) : Key)) nd fun x hx => by
    obtain ⟨i, rfl, ri⟩ := h x hx
    exact List.mem_map.mpr ⟨i, List.mem_range.mpr (Sh.R_lt ok ri), rfl⟩
  rwa [List.length_map, List.length_range] at this
structure RInv (s : Sh) (kvs : List (Key × V)) : Prop where
  sound : ∀ k v, valV kvs k = some v → ∃ (i : Nat) (y : Str), k = Sum.inl (i : Int) ∧ v = .str y ∧ s.R i ∧ StOk s.ws.length y ∧ ∀ lam, Lab s lam → lam i = y
  zero : valV kvs (Sum.inl 0) = some (.str s.z)
  nd : (kvs.map (·.1)).Nodup
theorem RInv.at {s : Sh} {kvs : List (Key × V)} (h : RInv s kvs) {i : Nat} (n : valV kvs (Sum.inl (i : Int)) ≠ none) : ∃ y, valV kvs (Sum.inl (i : Int)) = some (.str y) ∧ StOk s.ws.length y ∧ ∀ lam, Lab s lam → lam i = y := by
  cases e : valV kvs (Sum.inl (i : Int)) with
  | none => exact absurd e n
  | some v =>
    obtain ⟨j, y, ej, rfl, _, st, l⟩ := h.sound _ _ e
    cases ej
    exact ⟨y, rfl, st, l⟩
theorem RInv.first {s : Sh} (ok : ShOk s) : RInv s [(Sum.inl 0, .str s.z)] where
  sound := fun k v e => by
    by_cases c : (Sum.inl 0 : Key) = k
    · rw [valV_pos (p := (Sum.inl 0, V.str s.z)) c] at e
      cases e
      subst c
      exact ⟨0, s.z, rfl, rfl, .start, ok.st, fun lam l => l.1⟩
    · rw [valV_neg (p := (Sum.inl 0, V.str s.z)) c] at e
      cases e
  zero := valV_pos (p := (Sum.inl 0, V.str s.z)) rfl
  nd := by simp
theorem RInv.few {s : Sh} {kvs : List (Key × V)} (ok : ShOk s) (h : RInv s kvs) : kvs.length ≤ s.nodes.length := by
  have := keys_few ok h.nd fun x hx => by
    cases e : valV kvs x with
    | none => exact absurd hx (valV_not e)
    | some v =>
      obtain ⟨i, y, rfl, _, r, _⟩ := h.sound _ _ e
      exact ⟨i, rfl, r⟩
  rwa [List.length_map] at this
theorem RInv.put {s : Sh} {kvs : List (Key × V)} (ok : ShOk s) (h : RInv s kvs) {i : Nat} {y : Str} {p : Str × Nat} (r : s.R i) (hp : p ∈ s.node i) (hy : valV kvs (Sum.inl (i : Int)) = some (.str y)) (n : valV kvs (Sum.inl (p.2 : Int)) = none) : RInv s (putK kvs (Sum.inl (p.2 : Int)) (.str (turnT y (s.ws.idxOf p.1)))) where
  sound := fun k v e => by
    rw [valV_put] at e
    by_cases c : k = Sum.inl (p.2 : Int)
    · rw [if_pos c] at e
      cases e
      obtain ⟨j, y', ej, ey, _, st, l⟩ := h.sound _ _ hy
      cases ej
      cases ey
      exact ⟨p.2, _, c, rfl, .step r (List.mem_map.mpr ⟨p, hp, rfl⟩), turn_ok st (List.idxOf_lt_length_of_mem (ok.names _ (Sh.node_mem (Sh.R_lt ok r)) p hp)), fun lam L => by rw [L.2 i r p hp, l lam L]⟩
    · rw [if_neg c] at e
      exact h.sound k v e
  zero := by
    rw [valV_put]
    by_cases c : (Sum.inl 0 : Key) = Sum.inl (p.2 : Int)
    · rw [← c, h.zero] at n; cases n
    · rw [if_neg c]; exact h.zero
  nd := by
    rw [putK_new _ n, List.map_append, List.nodup_append]
    refine ⟨h.nd, by simp, fun a ha b hb => ?_⟩
    have : b = Sum.inl (p.2 : Int) := by simpa using hb
    subst this
    intro e
    subst e
    exact valV_not n ha
theorem put_keeps {kvs : List (Key × V)} {k j : Key} {v : V} (h : valV kvs j ≠ none) : valV (putK kvs k v) j ≠ none := by
  rw [valV_put]
  split
  · exact fun z => nomatch z
  · exact h
structure RowsOk (s : Sh) (kvs : List (Key × V)) : Prop where
  inv : RInv s kvs
  all : ∀ i, s.R i → valV kvs (Sum.inl (i : Int)) ≠ none
noncomputable def spRows (TL : Addr) : Sp := fun vs H Q _ => ∃ (a li lo ln : Addr) (nas : List Addr) (s : Sh), vs = [.ref a] ∧ ShAt H a li lo ln nas s ∧ ShOk s ∧ TbAt TL lmRows H ∧ ∀ (R : Addr) (kvs : List (Key × V)) H', Tk TL H H' → H R = none → H' R = some (.dK kvs) → RowsOk s kvs → Q (.ref R) H'
theorem valV_of_get {kvs : List (Key × V)} (nd : (kvs.map (·.1)).Nodup) : ∀ {i : Nat} {k : Key} {v : V}, kvs[i]? = some (k, v) → valV kvs k = some v := by
  induction kvs with
  | nil => intro i k v e; simp at e
  | cons p r ih =>
    intro i k v e
    rw [List.map_cons, List.nodup_cons] at nd
    cases i with
    | zero =>
      simp at e
      subst e
      exact valV_pos (p := (k, v)) rfl
    | succ i =>
      simp at e
      rw [valV_neg (fun z : p.1 = k => nd.1 (by rw [z]; exact List.mem_map.mpr ⟨(k, v), List.mem_of_getElem? e, rfl⟩))]
      exact ih nd.2 e
theorem upd_drop {H : Hp} {c : Addr} {o : HO} (h : H c = some o) : upd (dropH H c) c o = H := by
  funext b
  by_cases e : b = c
  · subst e; rw [upd_same, h]
  · rw [upd_ne e, drop_ne e]
section
variable {P : Program} {w : World} {K : PySem.W.Frag} {mg : Str → Option Value} {base : Heap} {TT : Addr}
theorem calls_rows {f c cell : Addr} : Calls P w K mg base 1 f (rLam f lmRows "sheet" cell c (tOp (rIxL K) (tOp (rIxT K) (tVar 1) (tC (.int 3))) (tVar 0))) :=
  calls_lam (k := 0) lm_scope (fun pm ctv u => rfl) fun A outer s H hr => pe_ix ix_list (pe_ix ix_tup (pv 1) pe_int (fun _ _ => rfl)) (pv 0) (fun _ _ => rfl)
theorem sc_rows_found : FnScope ["sheet", "rows", "found", "node", "name", "to"] ["sheet"] (defScope (top 22)) := ⟨rfl, rfl, rfl, by decide +kernel, rfl, by decide +kernel, by decide +kernel⟩
theorem ok_rows {TL cc : Addr} {f : Addr} {fd : FuncData} (Fu : FunC K "rows_found" "rows_found" (top 22) f fd cc) (T : Txt K mg TT) (CT : PySem.W.CodeHd base cc TL) (BM : BMain base mg) (f_found_from : Fn P w K mg base "found_from" ["start", "steps_of"] 2 (spFound P w K mg base 1)) (f_row_behind : Fn P w K mg base "row_behind" ["sheet", "row", "name"] 2 spBehind) :
    FnOk P w K mg base CX0 3 f fd ["sheet"] (spRows TL) := by
  have S := sc_rows_found
  refine Fu.ok S (fun vs H Q E h => ?_) (fun A outer s H vs Q E hr h => ?_)
  · obtain ⟨a, li, lo, ln, nas, sh, rfl, _⟩ := h
    rfl
  · obtain ⟨a, li, lo, ln, nas, sh, rfl, at_, ok, tb, k⟩ := h
    have hu := hu_of hr
    have HCL : PySem.closureFor lmRows.scope (PyProof.Rows.envOfC "rows_found" (defScope (top 22)) s.heap.objs.size f (.ref cc)) = pure [(("sheet" : Str), (s.heap.objs.size + 1 : Addr))] := by rfl
    refine' ⟨?_, ?bb, ?_⟩
    case bb =>
      refine' pss_cons ?s1 ?r1
      case s1 =>
        refine' ps_set (i := 1) ?n ?r ?l ?e ?s ?f
        case n => exact S.nd
        case r => rfl
        case l => first | exact Or.inl rfl | exact Or.inr rfl
        case s => rfl
        case f => first | exact Or.inl rfl | exact Or.inr rfl
        case e => exact (pe_disp (pps_cons pe_int (pe_ix ix_tup (pv 0) pe_int (fun _ _ => rfl)) pps_nil) rfl rfl (by simp) (by decide))
      case r1 =>
        with_reducible refine' pss_cons ?s3 ?r3
        case s3 =>
          refine' ps_set (i := 2) ?n ?r ?l ?e ?s ?f
          case n => exact S.nd
          case r => rfl
          case l => first | exact Or.inl rfl | exact Or.inr rfl
          case s => rfl
          case f => first | exact Or.inl rfl | exact Or.inr rfl
          case e => exact (pe_fnC (i := 0) f_found_from (hr.mono (by first | decide | omega)) (by rfl) (pa_cons pe_int (pa_cons (pe_lam (T := TL) (cl := [(("sheet" : Str), (s.heap.objs.size + 1 : Addr))]) rfl CT BM HCL) pa_nil) se_con) rfl rfl (Or.inr (Or.inl rfl)) rfl rfl)
        case r3 =>
          with_reducible refine' pss_cons ?s5 ?r5
          case s5 =>
            refine' ps_frz ?z6
            case z6 =>
              refine' ps_for PassesOwn.never rfl ?i6 ?g6 ?b6 ?h6
              case h6 => intro _; rfl
              case i6 => exact (pi_dictF (pv 2))
              case g6 => exact (pg_name (i := 3) S.nd rfl (by first | exact Or.inl rfl | exact Or.inr rfl))
              case b6 =>
                with_reducible refine' pss_one ?s7
                case s7 =>
                  refine' ps_for PassesOwn.never rfl ?i8 ?g8 ?b8 ?h8
                  case h8 => intro _; rfl
                  case i8 => exact (pi_list (pe_dget hu (pv 2) (pv 3) (fun _ _ => rfl)))
                  case g8 => exact (pg_tup rfl (pgs_cons (pg_name (i := 4) S.nd rfl (by first | exact Or.inl rfl | exact Or.inr rfl)) (pgs_cons (pg_name (i := 5) S.nd rfl (by first | exact Or.inl rfl | exact Or.inr rfl)) pgs_nil)))
                  case b8 =>
                    with_reducible refine' pss_one ?s9
                    case s9 =>
                      exact (ps_expr (pe_dsetd (pv 1) (pv 5) (pe_fn f_row_behind (hr.mono (by first | decide | omega)) (by rfl) (pa_cons (pv 0) (pa_cons (pe_dget hu (pv 1) (pv 3) (fun _ _ => rfl)) (pa_cons (pv 4) pa_nil se_name)) se_name)) ⟨rfl, rfl, rfl, rfl⟩))
          case r5 =>
            with_reducible refine' pss_one ?s11
            case s11 =>
              exact (ps_ret (pv 1))
    try dsimp only [cxOf, Cx.nox, Cx.wish]
    rw [show L2.start ["sheet", "rows", "found", "node", "name", "to"] [V.ref a] = [some (.ref a), none, none, none, none, none] from rfl]
    have big : 100000 < sizeLine := by decide
    generalize hcell : s.heap.objs.size + 1 = cell
    refine s_seq (s_asg ?_)
    refine fun R hR => ?_
    have aR : a ≠ R := ne_of_none at_.ha hR
    have haR : upd H R (.dK []) a = some (.tup [.ref li, .ref lo, .str sh.z, .ref ln]) := by rw [upd_ne aR]; exact at_.ha
    show tOp (rIxT K) (tVar 0) (tC (V.int 2)) [some (.ref a), none, none, none, none, none] (upd H R (.dK [])) _
    refine i_op (i_var rfl (i_c (i_ixT haR rfl ?_)))
    refine ⟨upd_same, [(Sum.inl 0, .str sh.z)], rfl, by simp, ?_⟩
    rw [upd_upd]
    refine s_name ?_
    generalize hE : upd H R _ = H1
    obtain ⟨S1, q1⟩ := upd_pair hR hE
    clear hE
    have q1 : H1 R = some (.dK [(Sum.inl 0, .str sh.z)]) := q1
    have tb1 : TbAt TL lmRows H1 := tb_keep tb S1
    with_reducible refine s_seq ?_
    with_reducible refine s_asg ?_
    show tCons (tC (V.int 0)) (tCons (tLam TL lmRows [("sheet", cell)]) tNil) _ _ _
    refine i_cons (i_c (i_cons ⟨tb1, fun fl c H2 md => i_nil ⟨_, rfl, fun o uy hd ru hc => ?_⟩⟩))
    have md : Made TL lmRows [("sheet", cell)] H1 fl c H2 := md
    obtain rfl : uy = Value.ref a := ru
    -- at the call
    have at2 : ShAt H2 a li lo ln nas sh := (at_.same S1).mono (fun b xs e => md.old b _ e (tb_ne tb1 e fun _ z => nomatch z)) (fun b xs e => md.old b _ e (tb_ne tb1 e fun _ z => nomatch z))
    have S2c : Same H2 (upd H2 cell (AsIs o)) := fresh_same hc
    have hf2 : upd H2 cell (AsIs o) fl = some (LamO fl lmRows [("sheet", cell)] c) := S2c _ _ md.fn
    have hcc2 : upd H2 cell (AsIs o) c = some (CodeO c lmRows.qual) := S2c _ _ md.code
    have hcl2 : upd H2 cell (AsIs o) cell = some (AsIs o) := upd_same
    have at2c : ShAt (upd H2 cell (AsIs o)) a li lo ln nas sh := at2.same S2c
    have k12 : ∀ b u, H b = some u → b ≠ TL → upd H2 cell (AsIs o) b = some u := fun b u e n => S2c _ _ (md.old b u (S1 _ _ e) n)
    have tb2 : TbAt TL lmRows (upd H2 cell (AsIs o)) := .inr ⟨c, S2c _ _ md.tab, hcc2⟩
    have hR2 : upd H2 cell (AsIs o) R = some (.dK [(Sum.inl 0, .str sh.z)]) := S2c _ _ (md.old _ _ q1 (tb_ne tb1 q1 fun _ z => nomatch z))
    have nocell : ∀ {b u}, H2 b = some u → b ≠ cell := fun e z => by rw [z, hc] at e; cases e
    have H2R : ∀ {b u}, H b = some u → b ≠ TL → b ≠ cell := fun {b u} e n => nocell (md.old b u (S1 _ _ e) n)
    have acell : a ≠ cell := nocell at2.ha
    have lncell : ln ≠ cell := nocell at2.hn
    have Rcell : R ≠ cell := nocell (md.old _ _ q1 (tb_ne tb1 q1 fun _ z => nomatch z))
    have Tcell : TL ≠ cell := nocell md.tab
    have ccell : c ≠ cell := nocell md.code
    generalize upd H2 cell (AsIs o) = H2c at *
    refine ⟨Sum.inl 0, fl, lmRows, [("sheet", cell)], c, _, stK sh, sh.nodes.length, rfl, hf2, calls_rows (c := c) (cell := cell), by have := ok.n100; omega, fun x H4 Q1 rx S4 q4 => ?_, fun xs nd h => keys_few ok nd fun x hx => reach_key (h x hx), fun F as n H3 S3 hF ln3 las hF3 sts => ?_⟩
    · obtain ⟨i, rfl, ri⟩ := reach_key rx
      have hi := Sh.R_lt ok ri
      have at4 := at2c.same S4
      have hcl4 := S4 _ _ hcl2
      obtain ⟨na, hna, hst⟩ := paired_get' at4.nodes (List.getElem?_eq_getElem hi)
      refine ⟨o, Value.ref a, .ref a, S4 _ _ hf2, S4 _ _ hcc2, hcl4, hd, rfl, ?_⟩
      have ha4 : dropH H4 cell a = some (.tup [.ref li, .ref lo, .str sh.z, .ref ln]) := by rw [drop_ne acell]; exact at4.ha
      have hn4 : dropH H4 cell ln = some (.lst (nas.map V.ref)) := by rw [drop_ne lncell]; exact at4.hn
      refine i_op (i_op (i_var rfl (i_c (i_ixT ha4 rfl (i_var rfl ?_)))))
      refine (i_ixL (v := .ref na) (SqL.of hn4) (atI_nat (by rw [List.getElem?_map, hna]; rfl)) ?_ : rIxL K _ (.int (i : Int)) _ _)
      rw [upd_drop hcl4]
      refine q4 na H4 (fun _ _ e => e) ?_
      rw [stK_nat, Sh.node_of (List.getElem?_eq_getElem hi)]
      exact hst
    show gName 2 (V.ref F) _ (dropH H3 cell) _
    have hcl3 := S3 _ _ hcl2
    have d3 : ∀ {b u}, H3 b = some u → b ≠ cell → dropH H3 cell b = some u := fun e n => by rw [drop_ne n]; exact e
    have Fcell : F ≠ cell := fun z => by rw [z, hcl2] at hF; cases hF
    have FR : F ≠ R := fun z => by rw [z, hR2] at hF; cases hF
    have tb3 : TbAt TL lmRows (dropH H3 cell) := by
      rcases tb2 with e | ⟨c', e, q⟩
      · exact .inl (d3 (S3 _ _ e) Tcell)
      · have c'cell : c' ≠ cell := fun z => by rw [z, hcl2] at q; cases q
        exact .inr ⟨c', d3 (S3 _ _ e) Tcell, d3 (S3 _ _ q) c'cell⟩
    have k13 : ∀ b u, H b = some u → b ≠ TL → dropH H3 cell b = some u ∧ b ≠ F := fun b u e n => ⟨d3 (S3 _ _ (k12 b u e n)) (H2R e n), fun z => by rw [← z, k12 b u e n] at hF; cases hF⟩
    have hF3d : dropH H3 cell F = some (.dK (fdK (Bf.bfs (nxK (stK sh)) (Sum.inl 0) n) as)) := d3 hF3 Fcell
    have hR3 : dropH H3 cell R = some (.dK [(Sum.inl 0, .str sh.z)]) := d3 (S3 _ _ hR2) Rcell
    have at3 : ShAt (dropH H3 cell) a li lo ln nas sh := at_.mono (fun b xs e => (k13 b _ e (tb_ne tb e fun _ z => nomatch z)).1) (fun b xs e => (k13 b _ e (tb_ne tb e fun _ z => nomatch z)).1)
    have sts3 : ∀ (i : Nat) x b, (Bf.bfs (nxK (stK sh)) (Sum.inl 0) n)[i]? = some x → as[i]? = some b → StepsAt (dropH H3 cell) b (stK sh x) := fun i x b e1 e2 => by
      obtain ⟨vs, h1, h2⟩ := sts i x b e1 e2
      refine ⟨vs, d3 h1 (fun z => by rw [z, hcl3] at h1; cases h1), paired_mono (fun v st ⟨b, e, q⟩ => ⟨b, e, d3 q (fun z => by rw [z, hcl3] at q; cases q)⟩) h2⟩
    have HT3 : Tk TL H (dropH H3 cell) := ⟨fun b u e n => (k13 b u e n).1, tb3⟩
    clear d3
    generalize dropH H3 cell = H3d at *
    generalize hO : Bf.bfs (nxK (stK sh)) (Sum.inl 0) n = order at *
    refine s_name ?_
    with_reducible refine s_seq ?_
    refine (s_frz (a := F) (u := .dK (fdK order as)) (.inl hF3d) trivial fun ob => ?_)
    have h4 : ∀ b, b ≠ F → upd H3d F (.frz ob (.dK (fdK order as))) b = H3d b := fun b n => upd_ne n
    have hF4 : upd H3d F (.frz ob (.dK (fdK order as))) F = some (.frz ob (.dK (fdK order as))) := upd_same
    generalize upd H3d F (.frz ob (.dK (fdK order as))) = H4 at *
    have l4 : ∀ b xs, H3d b = some (.lst xs) → H4 b = some (.lst xs) := fun b xs e => by rw [h4 b (fun z => by rw [z, hF3d] at e; cases e)]; exact e
    have t4 : ∀ b xs, H3d b = some (.tup xs) → H4 b = some (.tup xs) := fun b xs e => by rw [h4 b (fun z => by rw [z, hF3d] at e; cases e)]; exact e
    have at4 : ShAt H4 a li lo ln nas sh := at3.mono l4 t4
    have hR4 : H4 R = some (.dK [(Sum.inl 0, .str sh.z)]) := by rw [h4 R FR.symm]; exact hR3
    have sts4 : ∀ (i : Nat) x b, order[i]? = some x → as[i]? = some b → StepsAt H4 b (stK sh x) := fun i x b e1 e2 => by
      obtain ⟨vs, h1, h2⟩ := sts3 i x b e1 e2
      exact ⟨vs, l4 _ _ h1, paired_mono (fun v st ⟨b, e, q⟩ => ⟨b, e, t4 _ _ q⟩) h2⟩
    have oreach : ∀ x ∈ order, ∃ i : Nat, x = Sum.inl (i : Int) ∧ sh.R i := fun x hx => reach_key (Bf.bfs_reach n x (hO ▸ hx))
    have lfd : (fdK order as).length = n := by rw [fdK_len (by omega)]; exact las
    -- each has a row when it is gone along
    have has : ∀ (kvs : List (Key × V)) (j : Nat), RInv sh kvs → (∀ j', j' < j → ∀ x, order[j']? = some x → ∀ y ∈ nxK (stK sh) x, valV kvs y ≠ none) → ∀ x, order[j]? = some x → valV kvs x ≠ none := fun kvs j inv hp x hx => by
      cases j with
      | zero =>
        have := Bf.bfs_zero (nx := nxK (stK sh)) (s := (Sum.inl 0 : Key)) n
        rw [hO, hx] at this
        cases this
        rw [inv.zero]; exact fun z => nomatch z
      | succ j =>
        obtain ⟨i, y, h1, _, h3, h4⟩ := Bf.bfs_pred n (j + 1) x (by omega) (by rw [hO]; exact hx)
        rw [hO] at h3
        exact hp i h1 y h3 x h4
    refine s_for (s_dictF (i_var rfl ⟨F, ob, _, rfl, hF4, ?_⟩))
    refine for_dict (fun j σ' H' => ∃ (kvs : List (Key × V)) (x3 x4 x5 : Option V), σ' = [some (.ref a), some (.ref R), some (.ref F), x3, x4, x5] ∧ (∀ b u, H4 b = some u → b ≠ R → H' b = some u) ∧ H' R = some (.dK kvs) ∧ RInv sh kvs ∧ ∀ j', j' < j → ∀ x, order[j']? = some x → ∀ y ∈ nxK (stK sh) x, valV kvs y ≠ none)
      ⟨_, _, _, _, rfl, fun b u e _ => e, hR4, RInv.first ok, fun j' h => absurd h (Nat.not_lt_zero _)⟩ (fun j σ' H' _ pv => ?_) (fun j ky vl σ' H' hj pv => ?_) (fun σ' H' pv => ?_)
    · obtain ⟨_, _, _, _, _, o4, _⟩ := pv
      exact o4 F _ hF4 FR
    · obtain ⟨kvs, x3, x4, x5, rfl, o4, hR', inv, hp⟩ := pv
      obtain ⟨x, b, hx, hb, e1, e2⟩ : ∃ x b, order[j]? = some x ∧ as[j]? = some b ∧ ky = x ∧ vl = V.ref b := by
        have hj2 := hj
        unfold fdK at hj2
        rw [List.getElem?_map] at hj2
        cases q : (order.zip as)[j]? with
        | none => rw [q] at hj2; cases hj2
        | some p =>
          rw [q] at hj2
          cases hj2
          have := List.getElem?_zip_eq_some.mp q
          exact ⟨p.1, p.2, this.1, this.2, rfl, rfl⟩
      subst e1 e2
      obtain ⟨i, rfl, ri⟩ := oreach ky (List.mem_of_getElem? hx)
      obtain ⟨vs, hvs, prs⟩ := sts4 j _ b hx hb
      have bR : b ≠ R := fun z => by rw [z, hR4] at hvs; cases hvs
      have dg : DGet H' F (kV (Sum.inl (i : Int))) (some (.ref b)) := by
        refine .inl ⟨fdK order as, Sum.inl (i : Int), .inr ⟨ob, o4 F _ hF4 FR⟩, rfl, ?_⟩
        refine (valV_of_get ?_ hj).symm
        rw [fdK_keys]
        exact (List.take_sublist _ _).nodup (hO ▸ Bf.bfs_nodup n)
      refine s_name ?_
      refine s_for (s_list (i_dget (i_var rfl (i_var rfl ⟨F, _, rfl, dg, b, rfl, ⟨_, SqL.of (o4 _ _ hvs bR)⟩, ?_⟩))))
      have lvs : vs.length = (sh.node i).length := by
        have := paired_len prs
        rw [stK_nat] at this
        unfold nodeV at this
        rwa [List.length_map] at this
      refine for_list (xs := vs) (fun i' σ' H' => ∃ (kvs : List (Key × V)) (x4 x5 : Option V), σ' = [some (.ref a), some (.ref R), some (.ref F), some (.int (i : Int)), x4, x5] ∧ (∀ b u, H4 b = some u → b ≠ R → H' b = some u) ∧ H' R = some (.dK kvs) ∧ RInv sh kvs ∧ (∀ j', j' < j → ∀ x, order[j']? = some x → ∀ y ∈ nxK (stK sh) x, valV kvs y ≠ none) ∧ ∀ q ∈ (sh.node i).take i', valV kvs (Sum.inl (q.2 : Int)) ≠ none)
        ⟨_, _, _, rfl, o4, hR', inv, hp, fun q hq => by simp at hq⟩ (fun i' σ' H' _ pv => ?_) (fun i' v σ' H' hv pv => ?_) (fun σ' H' pv => ?_)
      · obtain ⟨_, _, _, _, o5, _⟩ := pv
        exact SqL.of (o5 _ _ hvs bR)
      · obtain ⟨kvs, x4, x5, rfl, o5, hR5, inv5, hp5, hq5⟩ := pv
        obtain ⟨st, hst, tp, rfl, htp⟩ := paired_get prs hv
        rw [stK_nat] at hst
        unfold nodeV at hst
        rw [List.getElem?_map] at hst
        cases hpq : (sh.node i)[i']? with
        | none => rw [hpq] at hst; cases hst
        | some q =>
          rw [hpq] at hst
          cases hst
          have hqm : q ∈ sh.node i := List.mem_of_getElem? hpq
          have htp' : H' tp = some (.tup [.str q.1, .int (q.2 : Int)]) := o5 _ _ htp (fun z => by rw [z, hR4] at htp; cases htp)
          refine ⟨tp, _, rfl, SqT.of htp', rfl, _, _, rfl, s_name ⟨_, _, rfl, s_name ⟨rfl, ?_⟩⟩⟩
          have hrow := has kvs j inv5 hp5 _ hx
          obtain ⟨y, hy, sty, _⟩ := inv5.at hrow
          refine s_drop (i_dsetd (i_var rfl ⟨R, rfl, .inl ⟨_, .inl hR5⟩, i_var rfl ?_⟩))
          refine i_call (i_cons (i_var rfl (i_cons (i_dget (i_var rfl (i_var rfl ⟨R, _, rfl, by have := DGet.k (k := Sum.inl (i : Int)) hR5; rw [hy] at this; exact this, i_cons (i_var rfl (i_nil ?_))⟩))))))
          have at5 : ShAt H' a li lo ln nas sh := at4.mono (fun b xs e => o5 b _ e (fun z => by rw [z, hR4] at e; cases e)) (fun b xs e => o5 b _ e (fun z => by rw [z, hR4] at e; cases e))
          refine ⟨a, li, lo, ln, nas, sh, y, q.1, rfl, at5, ok, sty, ok.names _ (Sh.node_mem (Sh.R_lt ok ri)) q hqm, fun H6 S6 => ?_⟩
          have nextq : ∀ {kv : List (Key × V)}, (∀ q' ∈ (sh.node i).take i', valV kv (Sum.inl (q'.2 : Int)) ≠ none) → valV kv (Sum.inl (q.2 : Int)) ≠ none → ∀ q' ∈ (sh.node i).take (i' + 1), valV kv (Sum.inl (q'.2 : Int)) ≠ none := fun h1 h2 q' hq' => by
            rw [List.take_succ, hpq] at hq'
            rcases List.mem_append.mp hq' with h | h
            · exact h1 q' h
            · have : q' = q := by simpa using h
              subst this; exact h2
          refine ⟨kvs, Sum.inl (q.2 : Int), S6 _ _ hR5, rfl, fun v hv => ?_, fun hn => ⟨by have := inv5.few ok; have := ok.n100; omega, ?_⟩⟩
          · exact ⟨kvs, _, _, rfl, fun b u e n => S6 _ _ (o5 b u e n), S6 _ _ hR5, inv5, hp5, nextq hq5 (by rw [hv]; exact fun z => nomatch z)⟩
          · refine ⟨_, _, _, rfl, fun b u e n => by rw [upd_ne n]; exact S6 _ _ (o5 b u e n), upd_same, inv5.put ok ri hqm hy hn, fun j' h x hx' y hy' => put_keeps (hp5 j' h x hx' y hy'), nextq (fun q' h => put_keeps (hq5 q' h)) ?_⟩
            rw [valV_put, if_pos rfl]; exact fun z => nomatch z
      · obtain ⟨kvs, x4, x5, rfl, o5, hR5, inv5, hp5, hq5⟩ := pv
        refine ⟨kvs, _, _, _, rfl, o5, hR5, inv5, fun j' h x hx' y hy' => ?_⟩
        by_cases c : j' < j
        · exact hp5 j' c x hx' y hy'
        · have : j' = j := by omega
          subst this
          rw [hx] at hx'
          cases hx'
          obtain ⟨q, hq, rfl⟩ := nxK_mem.mp hy'
          exact hq5 q (by rw [lvs, List.take_of_length_le (Nat.le_refl _)]; exact hq)
    · obtain ⟨kvs, x3, x4, x5, rfl, o4, hR', inv, hp⟩ := pv
      rw [lfd] at hp
      refine ⟨o4 F _ hF4 FR, ?_⟩
      refine s_ret (i_var rfl ?_)
      refine k R kvs _ ⟨fun b u e nT => ?_, ?_⟩ hR (by rw [back_ne FR.symm]; exact hR') ⟨inv, fun i ri => ?_⟩
      · obtain ⟨e3, nF⟩ := k13 b u e nT
        rw [back_ne nF]
        exact o4 b u (by rw [h4 b nF]; exact e3) (ne_of_none e hR)
      · have bk : ∀ {b u}, H3d b = some u → b ≠ F → b ≠ R → back H3d F H' b = some u := fun {b u} e n1 n2 => by rw [back_ne n1]; exact o4 b u (by rw [h4 b n1]; exact e) n2
        rcases tb3 with e | ⟨c', e, q⟩
        · exact .inl (bk e (fun z => by rw [z, hF3d] at e; cases e) (fun z => by rw [z, hR3] at e; cases e))
        · exact .inr ⟨c', bk e (fun z => by rw [z, hF3d] at e; cases e) (fun z => by rw [z, hR3] at e; cases e), bk q (fun z => by rw [z, hF3d] at q; cases q) (fun z => by rw [z, hR3] at q; cases q)⟩
      · have hm : (Sum.inl (i : Int) : Key) ∈ order := hO ▸ (Bf.bfs_all (by rw [hO]; omega) _).mpr (key_reach ri)
        obtain ⟨j, hj, e⟩ := List.mem_iff_getElem.mp hm
        exact has kvs j inv (fun j' h => hp j' (by omega)) _ (by rw [List.getElem?_eq_getElem hj, e])
end
set_option Elab.async false
set_option linter.all false
set_option maxRecDepth 100000
set_option maxHeartbeats 4000000

noncomputable def spCell (K : PySem.W.Frag) : Sp := fun vs H Q _ => ∃ (s : Addr) (ns : List Int) (k : Nat), vs = [.ref s, .int (k : Int)] ∧ SqL K H s (ns.map V.int) ∧ k ≤ 100 ∧ ∀ (c : Int), Q (.int c) H
noncomputable def spStore : Sp := fun vs H Q _ => ∃ (c : Int), vs = [.int c] ∧ ∀ D H', Same H H' → H D.d = none → Dk.At D H' → Q (.ref D.d) H'
theorem perm_erase {α : Type} : ∀ (l : List α) (i : Nat) (h : i < l.length), (l[i] :: l.eraseIdx i).Perm l
  | a :: l, 0, _ => List.Perm.refl _
  | a :: l, i + 1, h => by
    have ih := perm_erase l i (by simpa using h)
    rw [List.getElem_cons_succ, List.eraseIdx_cons_succ]
    exact (List.Perm.swap _ _ _).trans (List.Perm.cons _ ih)
noncomputable def SPARE : List Str := ["a", "b", "c", "ab", "ba", "hold", "set", "x", "zzzzzzzz", "aa", "wire", "not", "and", "or", "q"]
noncomputable def spSomeN : Sp := fun vs H Q _ => ∃ (D : Dk) (m : Nat), vs = [.ref D.d, .int (m : Int)] ∧ D.At H ∧ 1 ≤ m ∧ m ≤ 12 ∧ ∀ l (ns : List Str) H', ns.length = m → H l = none → H' l = some (.lst (ns.map V.str)) → Kp D H H' → ns.Nodup → (∀ x ∈ ns, x ∈ SPARE) → Q (.ref l) H'
section
variable {P : Program} {w : World} {K : PySem.W.Frag} {mg : Str → Option Value} {base : Heap} {TT : Addr}
theorem sc_law_cell : FnScope ["script", "k"] ["script", "k"] (defScope (top 27)) := ⟨rfl, rfl, rfl, by decide +kernel, rfl, by decide +kernel, by decide +kernel⟩
theorem ok_cell {f : Addr} {fd : FuncData} (Fu : Fun K "_law_cell" "_law_cell" (top 27) f fd) (T : Txt K mg TT) : FnOk P w K mg base CX0 1 f fd ["script", "k"] (spCell K) := by
  have S := sc_law_cell
  refine Fu.ok S (fun vs H Q E h => ?_) (fun cdv A outer s H vs Q E hr h => ?_)
  · obtain ⟨s, ns, k, rfl, _⟩ := h
    rfl
  · obtain ⟨s, ns, k, rfl, hS, k100, q⟩ := h
    refine ⟨_, (pss_cons (ps_if (pt_cmpR op_lt (pv 1) (pe_callB call_len_seq (by rfl) T.n_len PySem.boot_len (pa_cons (pv 0) pa_nil se_name)) (nomark _)) (pss_one (ps_ret (pe_ix ix_list (pv 0) (pv 1) (fun _ _ => rfl)))) pss_nil)
      (pss_one (ps_ret (pe_op op_add (pe_op op_add (pe_op op_mul (pe_op op_mul pe_int (pv 1)) (pv 1)) (pe_op op_mul pe_int (pv 1))) pe_int)))), ?_⟩
    try dsimp only [cxOf, Cx.nox, Cx.wish]
    rw [show L2.start ["script", "k"] [V.ref s, V.int (k : Int)] = [some (.ref s), some (.int (k : Int))] from rfl]
    repeat walk_at "vc"
    refine ⟨_, _, rfl, Or.inl hS, ?_⟩
    repeat walk_at "vc"
    rw [List.length_map]
    by_cases c : k < ns.length
    · refine ifT (decide_eq_true (by omega)) ?_
      repeat walk_at "vc"
      refine i_ixL (v := .int ns[k]) hS (atI_nat (by rw [List.getElem?_map, List.getElem?_eq_getElem c]; rfl)) ?_
      exact q _
    · refine ifF (decide_eq_false (by omega)) ?_
      repeat walk_at "vc"
      first
      | exact q _
      | (refine i_rI (.inl ⟨by omega, by omega⟩) ?_; repeat walk_at "vc"; exact q _)
theorem sc_law_store : FnScope ["cell", "great"] ["cell"] (defScope (top 28)) := ⟨rfl, rfl, rfl, by decide +kernel, rfl, by decide +kernel, by decide +kernel⟩
theorem ok_store {f : Addr} {fd : FuncData} (Fu : Fun K "_law_store" "_law_store" (top 28) f fd) (T : Txt K mg TT) : FnOk P w K mg base CX0 1 f fd ["cell"] spStore := by
  have S := sc_law_store
  refine Fu.ok S (fun vs H Q E h => ?_) (fun cdv A outer s H vs Q E hr h => ?_)
  · obtain ⟨c, rfl, _⟩ := h
    rfl
  · obtain ⟨c, rfl, q⟩ := h
    refine ⟨_, (pss_cons (ps_set (i := 1) S.nd rfl (by first | exact Or.inl rfl | exact Or.inr rfl) pe_int)
      (pss_cons (ps_if (pt_cmpR op_ge (pv 0) (pe_op op_pow pe_int pe_int) (nomark _)) (pss_one (ps_set (i := 1) S.nd rfl (by first | exact Or.inl rfl | exact Or.inr rfl) (pv 0))) pss_nil)
      (pss_one (ps_ret (pe_lst (pa_cons (pv 1) (pa_cons (pe_op op_mod (pv 0) pe_int) (pa_cons pe_int pa_nil se_con)) se_name)))))), ?_⟩
    try dsimp only [cxOf, Cx.nox, Cx.wish]
    rw [show L2.start ["cell", "great"] [V.int c] = [some (.int c), none] from rfl]
    have last : ∀ g : Int, tRet (tLst (tCons (tVar 1) (tCons (tOp (rI (fun x j => 0 < j) fun i j => V.int (i % j)) (tVar 0) (tC (V.int 2147483629))) (tCons (tC (V.int 1)) tNil)))) { nx := fun _ H' => Q .non H', rt := Q } [some (.int c), some (.int g)] H := fun g => by
      repeat walk_at "vc"
      refine ⟨by simp [sizeLine], fun p hp => ?_⟩
      exact q ⟨p⟩ _ (fresh_same hp) hp ⟨_, _, _, upd_same⟩
    repeat walk_at "vc"
    first | refine i_rI ⟨by decide, by decide, by decide⟩ ?_ | skip
    repeat walk_at "vc"
    refine ite2 (fun _ => ?_) (fun _ => ?_)
    · refine s_asg (i_var rfl (s_name ?_))
      exact last _
    · exact last _
theorem sc_law_take : FnScope ["store", "many", "told", "one"] ["store", "many"] (defScope (top 29)) := ⟨rfl, rfl, rfl, by decide +kernel, rfl, by decide +kernel, by decide +kernel⟩
theorem ok_take {f : Addr} {fd : FuncData} (Fu : Fun K "_law_take" "_law_take" (top 29) f fd) (T : Txt K mg TT) : FnOk P w K mg base CX0 1 f fd ["store", "many"] spDraw := by
  have S := sc_law_take
  refine Fu.ok S (fun vs H Q E h => ?_) (fun cdv A outer s H vs Q E hr h => ?_)
  · obtain ⟨D, m, rfl, _⟩ := h
    rfl
  · obtain ⟨D, m, rfl, DA, h1, h2, k⟩ := h
    refine ⟨_, (pss_cons (ps_if (pt_cmpR op_gt (pe_ix ix_list (pv 0) pe_int (fun _ _ => rfl)) pe_int (nomark _)) (pss_cons (ps_set (i := 2) S.nd rfl (by first | exact Or.inl rfl | exact Or.inr rfl) (pe_op op_mod (pe_ix ix_list (pv 0) pe_int (fun _ _ => rfl)) (pv 1)))
      (pss_cons (ps_asg (pe_op op_fdiv (pe_ix ix_list (pv 0) pe_int (fun _ _ => rfl)) (pv 1)) (pg_sub (pv 0) pe_int set_list))
      (pss_one (ps_ret (pv 2))))) pss_nil)
      (pss_cons (ps_asg (pe_op op_add (pe_ix ix_list (pv 0) pe_int (fun _ _ => rfl)) pe_int) (pg_sub (pv 0) pe_int set_list))
      (pss_cons (ps_set (i := 3) S.nd rfl (by first | exact Or.inl rfl | exact Or.inr rfl) (pe_op op_mod (pe_op op_mul (pe_op op_add (pe_ix ix_list (pv 0) pe_int (fun _ _ => rfl)) (pe_op op_mul pe_int (pe_ix ix_list (pv 0) pe_int (fun _ _ => rfl)))) pe_int) pe_int))
      (pss_cons (ps_set (i := 3) S.nd rfl (by first | exact Or.inl rfl | exact Or.inr rfl) (pe_op op_mod (pe_op op_mul (pv 3) (pv 3)) pe_int))
      (pss_cons (ps_set (i := 3) S.nd rfl (by first | exact Or.inl rfl | exact Or.inr rfl) (pe_op op_mod (pe_op op_mul (pe_op op_add (pv 3) (pe_op op_mul pe_int (pe_ix ix_list (pv 0) pe_int (fun _ _ => rfl)))) pe_int) pe_int))
      (pss_one (ps_ret (pe_op op_mod (pe_op op_fdiv (pv 3) pe_int) (pv 1))))))))), ?_⟩
    try dsimp only [cxOf, Cx.nox, Cx.wish]
    rw [show L2.start ["store", "many", "told", "one"] [.ref D.d, .int m] = [some (.ref D.d), some (.int m), none, none] from rfl]
    obtain ⟨a, b, c, hd⟩ := id DA
    repeat walk_at "vc"
    refine ite2 (fun _ => ?_) (fun _ => ?_)
    · repeat walk_at "vc"
      first | refine i_rI (show (0 : Int) < m by omega) ?_ | skip
      repeat walk_at "vc"
      first | refine i_rI ⟨by omega, by omega⟩ ?_ | skip
      repeat walk_at "vc"
      exact k _ _ (Int.emod_nonneg _ (by omega)) (Int.emod_lt_of_pos _ (by omega)) kp_mk
    · repeat walk_at "vc"
      have hd2 : upd H D.d (HO.lst ([V.int a, V.int b, V.int c].set (Int.toNat 2) (V.int (c + 1)))) D.d = some (.lst [.int a, .int b, .int (c + 1)]) := upd_same
      have kp : Kp D H (upd H D.d (HO.lst ([V.int a, V.int b, V.int c].set (Int.toNat 2) (V.int (c + 1))))) := kp_mk
      generalize upd H D.d (HO.lst ([V.int a, V.int b, V.int c].set (Int.toNat 2) (V.int (c + 1)))) = H1 at *
      repeat walk_at "vc"
      refine i_rI (show (0 : Int) < m by omega) ?_
      exact k _ _ (Int.emod_nonneg _ (by omega)) (Int.emod_lt_of_pos _ (by omega)) kp
theorem sc_law_some_names : FnScope ["store", "many", "spare"] ["store", "many"] (defScope (top 30)) := ⟨rfl, rfl, rfl, by decide +kernel, rfl, by decide +kernel, by decide +kernel⟩
theorem ok_someN {f : Addr} {fd : FuncData} (Fu : Fun K "_law_some_names" "_law_some_names" (top 30) f fd) (T : Txt K mg TT) (f_law_take : Fn P w K mg base "_law_take" ["store", "many"] 1 spDraw) : FnOk P w K mg base CX0 2 f fd ["store", "many"] spSomeN := by
  have S := sc_law_some_names
  refine Fu.ok S (fun vs H Q E h => ?_) (fun cdv A outer s H vs Q E hr h => ?_)
  · obtain ⟨D, m, rfl, _⟩ := h
    rfl
  · obtain ⟨D, m, rfl, DA, m1, m12, k⟩ := h
    refine' ⟨?_, ?bb, ?_⟩
    case bb =>
      refine' pss_cons ?s1 ?r1
      case s1 =>
        refine' ps_set (i := 2) ?n ?r ?l ?e ?s ?f
        case n => exact S.nd
        case r => rfl
        case l => first | exact Or.inl rfl | exact Or.inr rfl
        case s => rfl
        case f => first | exact Or.inl rfl | exact Or.inr rfl
        case e =>
          with_reducible refine' pe_lst ?a3
          case a3 =>
            with_reducible refine' pa_cons ?e4 ?s4 se_con
            case e4 =>
              exact pe_str
            case s4 =>
              with_reducible refine' pa_cons ?e6 ?s6 se_con
              case e6 =>
                exact pe_str
              case s6 =>
                with_reducible refine' pa_cons ?e8 ?s8 se_con
                case e8 =>
                  exact pe_str
                case s8 =>
                  with_reducible refine' pa_cons ?e10 ?s10 se_con
                  case e10 =>
                    exact pe_str
                  case s10 =>
                    with_reducible refine' pa_cons ?e12 ?s12 se_con
                    case e12 =>
                      exact pe_str
                    case s12 =>
                      with_reducible refine' pa_cons ?e14 ?s14 se_con
                      case e14 =>
                        exact pe_str
                      case s14 =>
                        with_reducible refine' pa_cons ?e16 ?s16 se_con
                        case e16 =>
                          exact pe_str
                        case s16 =>
                          with_reducible refine' pa_cons ?e18 ?s18 se_con
                          case e18 =>
                            exact pe_str
                          case s18 =>
                            with_reducible refine' pa_cons ?e20 ?s20 se_con
                            case e20 =>
                              exact pe_str
                            case s20 =>
                              with_reducible refine' pa_cons ?e22 ?s22 se_con
                              case e22 =>
                                exact pe_str
                              case s22 =>
                                with_reducible refine' pa_cons ?e24 ?s24 se_con
                                case e24 =>
                                  exact pe_str
                                case s24 =>
                                  with_reducible refine' pa_cons ?e26 ?s26 se_con
                                  case e26 =>
                                    exact pe_str
                                  case s26 =>
                                    with_reducible refine' pa_cons ?e28 ?s28 se_con
                                    case e28 =>
                                      exact pe_str
                                    case s28 =>
                                      with_reducible refine' pa_cons ?e30 ?s30 se_con
                                      case e30 =>
                                        exact pe_str
                                      case s30 =>
                                        with_reducible refine' pa_cons ?e32 ?s32 se_con
                                        case e32 =>
                                          exact pe_str
                                        case s32 =>
                                          exact pa_nil
      case r1 =>
        with_reducible refine' pss_one ?s34
        case s34 =>
          exact (ps_ret (pe_lc (tgs := ["k"]) (cap := [("spare", 2), ("store", 0)]) rfl ⟨rfl, rfl, rfl, rfl, rfl, rfl⟩ (pi_range1 (by rfl) T.n_range (pa_cons (pv 1) pa_nil se_name)) (fun _ _ _ _ => (pg_name (i := 0) (show List.Nodup [("k" : Str), ("spare" : Str), ("store" : Str)] by decide +kernel) rfl (by first | exact Or.inl rfl | exact Or.inr rfl))) (fun _ _ _ _ => pifs_nil) (fun _ _ _ _ => (pe_bmK (K := K) rfl PySem.F.plainAttrs_list PySem.F.slot_list_pop PySem.F.type_list_pop mt_popAt (pv 1) (pa_cons (pe_fn f_law_take (hr.mono (by first | decide | omega)) (by rfl) (pa_cons (pv 2) (pa_cons (pe_callB (call_len_seqK (K := K) rfl) (by rfl) T.n_len PySem.boot_len (pa_cons (pv 1) pa_nil se_name)) pa_nil se_call) se_name)) pa_nil se_call)))))
    try dsimp only [cxOf, Cx.nox, Cx.wish]
    rw [show L2.start ["store", "many", "spare"] [.ref D.d, .int (m : Int)] = [some (.ref D.d), some (.int (m : Int)), none] from rfl]
    have big : 1000 < sizeLine := by decide
    repeat walk_at "vc"
    refine ⟨by simp [sizeLine], fun p hp => ?_⟩
    generalize hE : upd H p _ = H1
    obtain ⟨S1, q1⟩ := upd_pair hp hE
    clear hE
    have q1' : H1 p = some (.lst ((["a", "b", "c", "ab", "ba", "hold", "set", "x", "zzzzzzzz", "aa", "wire", "not", "and", "or", "q"] : List Str).map V.str)) := q1
    have kp1 : Kp D H H1 := Kp.of DA S1
    repeat walk_at "vc"
    refine i_comp ?_
    repeat walk_at "vc"
    refine ⟨by omega, by omega, fun L hL => ?_⟩
    rw [Int.toNat_natCast]
    have HL : H L = none := kp1.free hL
    have npL : p ≠ L := ne_of_none q1 hL
    refine comp_range (n := m) (fun n H' ys => Kp D H H' ∧ H' L = some (.lst ys) ∧ ∃ zs sp : List Str, ys = zs.map V.str ∧ zs.length = n ∧ H' p = some (.lst (sp.map V.str)) ∧ sp.length + n = 15 ∧ (zs ++ sp).Nodup ∧ ∀ x ∈ zs ++ sp, x ∈ SPARE) ⟨Kp.fresh DA HL kp1, upd_same, [], _, rfl, rfl, by rw [upd_ne npL]; exact q1', rfl, by decide +kernel, fun x hx => hx⟩ (fun i H' ys pv => pv.2.1) (fun i H' ys hi pv => ?_) (fun H' ys pv => ?_)
    · obtain ⟨kp, hl, zs, sp, rfl, hz, hsp, ls, nd, sub⟩ := pv
      refine s_name ⟨by repeat' (first | exact trivial | refine ⟨rfl, ?_⟩), i_yes (iteT ?_)⟩
      refine i_bm (i_var rfl ?_)
      refine ⟨i_tyL hsp, ?_⟩
      repeat walk_at "vc"
      refine ⟨D, _, rfl, kp.dk, by rw [List.length_map]; omega, by rw [List.length_map]; omega, fun r H2 r0 r1 k2 => ?_⟩
      rw [List.length_map] at r1
      have hsp2 := k2.strs kp.dk hsp
      have hl2 := k2.strs kp.dk hl
      have kp2 := kp.trans k2
      have hjl : r.toNat < sp.length := by omega
      have ez : sp[r.toNat]? = some sp[r.toNat] := List.getElem?_eq_getElem hjl
      refine i_nil ?_
      refine ⟨p, sp.map V.str, r, r.toNat, .str sp[r.toNat], rfl, rfl, hsp2, by omega, by omega, ?_, by rw [List.getElem?_map, ez]; rfl, ?_⟩
      · have : ixN (sp.map V.str).length r = some r.toNat := by unfold ixN; rw [if_pos r0, List.length_map, if_pos r1]
        exact (ixN_seq this).1
      rw [erase_map]
      have pm : ((zs ++ [sp[r.toNat]]) ++ sp.eraseIdx r.toNat).Perm (zs ++ sp) := by
        rw [List.append_assoc]
        exact List.Perm.append_left _ (perm_erase sp r.toNat hjl)
      have le : (sp.eraseIdx r.toNat).length = sp.length - 1 := by rw [List.length_eraseIdx, if_pos hjl]
      refine NextC.mk (by rw [upd_ne npL.symm]; exact hl2) hi (by rw [List.length_map]; omega) ⟨Kp.fresh DA HL (Kp.fresh DA hp kp2), upd_same, zs ++ [sp[r.toNat]], sp.eraseIdx r.toNat, by rw [List.map_append]; rfl, by rw [List.length_append, hz]; rfl, by rw [upd_ne npL, upd_same], by omega, ?_, fun x hx => ?_⟩
      · exact pm.nodup_iff.mpr nd
      · exact sub x (pm.mem_iff.mp hx)
    · obtain ⟨kp, hl, zs, sp, rfl, hz, _, _, nd, sub⟩ := pv
      exact k L zs H' hz (kp1.free hL) hl kp (List.nodup_append.mp nd).1 (fun x hx => sub x (List.mem_append_left _ hx))
end
set_option Elab.async false
set_option linter.all false
set_option maxRecDepth 100000
set_option maxHeartbeats 4000000
structure Gr (ws rows : List Str) (nodes : List (List (Str × Nat))) : Prop where
  len : rows.length = nodes.length
  pos : 1 ≤ nodes.length
  rok : ∀ y ∈ rows, StOk ws.length y
  edge : ∀ i p, p ∈ nodes.getD i [] → p.1 ∈ ws ∧ p.2 < nodes.length ∧ rows.getD p.2 "" = turnT (rows.getD i "") (ws.idxOf p.1)
  ndn : ∀ node ∈ nodes, (node.map (·.1)).Nodup
structure Bld (D : Dk) (H : Hp) (Lm Lr Lq : Addr) (ws rows : List Str) (nas : List Addr) (nodes : List (List (Str × Nat))) (H' : Hp) : Prop where
  kp : Kp D H H'
  m0 : H Lm = none
  r0 : H Lr = none
  q0 : H Lq = none
  f0 : ∀ b ∈ nas, H b = none
  hm : H' Lm = some (.lst (ws.map V.str))
  hr : H' Lr = some (.lst (rows.map V.str))
  hq : H' Lq = some (.lst (nas.map V.ref))
  nd : (Lm :: Lr :: Lq :: nas).Nodup
  nod : Paired (fun na node => StepsAt H' na (nodeV node)) nas nodes
theorem steps_refs {H : Hp} {vs : List V} {sts : List (V × Key)} (p : Paired (fun v (s : V × Key) => ∃ b, v = .ref b ∧ H b = some (.tup [s.1, kV s.2])) vs sts) : ∀ x ∈ vs, ∃ a, x = V.ref a := by
  induction p with
  | nil => exact fun x hx => nomatch hx
  | cons h _ ih =>
    intro x hx
    rcases List.mem_cons.mp hx with e | hx
    · obtain ⟨b, e', _⟩ := h; exact ⟨b, e.trans e'⟩
    · exact ih x hx
theorem StepsAt.kp {D : Dk} {H H' : Hp} {a : Addr} {sts : List (V × Key)} (DA : D.At H) (k : Kp D H H') (h : StepsAt H a sts) : StepsAt H' a sts := by
  obtain ⟨vs, h1, h2⟩ := h
  exact ⟨vs, k.refs DA h1 (steps_refs h2), paired_mono (fun v s ⟨b, e, q⟩ => ⟨b, e, k.tups DA _ _ q⟩) h2⟩
theorem refs_map (nas : List Addr) : ∀ x ∈ nas.map V.ref, ∃ a, x = V.ref a := fun x hx => by
  obtain ⟨a, _, e⟩ := List.mem_map.mp hx
  exact ⟨a, e.symm⟩
section
variable {D : Dk} {H H' H'' : Hp} {Lm Lr Lq : Addr} {ws rows : List Str} {nas : List Addr} {nodes : List (List (Str × Nat))}
theorem Bld.draw (b : Bld D H Lm Lr Lq ws rows nas nodes H') (k : Kp D H' H'') : Bld D H Lm Lr Lq ws rows nas nodes H'' :=
  ⟨b.kp.trans k, b.m0, b.r0, b.q0, b.f0, k.strs b.kp.dk b.hm, k.strs b.kp.dk b.hr, k.refs b.kp.dk b.hq (refs_map _), b.nd, paired_mono (fun _ _ h => h.kp b.kp.dk k) b.nod⟩
theorem Bld.same (b : Bld D H Lm Lr Lq ws rows nas nodes H') (S : Same H' H'') : Bld D H Lm Lr Lq ws rows nas nodes H'' := b.draw (Kp.of b.kp.dk S)
theorem Bld.lenN (b : Bld D H Lm Lr Lq ws rows nas nodes H') : nas.length = nodes.length := paired_len b.nod
theorem Bld.neR (b : Bld D H Lm Lr Lq ws rows nas nodes H') : Lm ≠ Lr ∧ Lm ≠ Lq ∧ Lr ≠ Lq ∧ Lm ∉ nas ∧ Lr ∉ nas ∧ Lq ∉ nas ∧ nas.Nodup := by
  have h := b.nd
  simp only [List.nodup_cons, List.mem_cons, not_or] at h
  exact ⟨h.1.1, h.1.2.1, h.2.1.1, h.1.2.2, h.2.1.2, h.2.2.1, h.2.2.2⟩
theorem steps_off {b : Addr} {o : HO} {a : Addr} {sts : List (V × Key)} (hb : ∃ xs, H' b = some (.lst xs)) (h : StepsAt H' a sts) (ne : a ≠ b) : StepsAt (upd H' b o) a sts := by
  obtain ⟨vs, h1, h2⟩ := h
  obtain ⟨xs, hb⟩ := hb
  exact ⟨vs, by rw [upd_ne ne]; exact h1, paired_mono (fun v s ⟨c, e, q⟩ => ⟨c, e, by rw [upd_ne (fun z => by rw [z, hb] at q; cases q)]; exact q⟩) h2⟩
theorem paired_mem {α β : Type} {F G : α → β → Prop} : ∀ {xs : List α} {ys : List β}, (∀ x ∈ xs, ∀ y, F x y → G x y) → Paired F xs ys → Paired G xs ys
  | _, _, _, .nil => .nil
  | _, _, h, .cons a t => .cons (h _ List.mem_cons_self _ a) (paired_mem (fun x hx => h x (List.mem_cons_of_mem _ hx)) t)
theorem Bld.addRow (b : Bld D H Lm Lr Lq ws rows nas nodes H') (DA : D.At H) (y : Str) : Bld D H Lm Lr Lq ws (rows ++ [y]) nas nodes (upd H' Lr (.lst (rows.map V.str ++ [.str y]))) := by
  obtain ⟨n1, n2, n3, n4, n5, n6, n7⟩ := b.neR
  exact ⟨Kp.fresh DA b.r0 b.kp, b.m0, b.r0, b.q0, b.f0, by rw [upd_ne n1]; exact b.hm, by rw [upd_same, List.map_append]; rfl, by rw [upd_ne n3.symm]; exact b.hq, b.nd,
    paired_mem (fun na hn node h => steps_off ⟨_, b.hr⟩ h (fun z => n5 (z ▸ hn))) b.nod⟩
theorem Bld.addNode (b : Bld D H Lm Lr Lq ws rows nas nodes H') (DA : D.At H) {p : Addr} {node : List (Str × Nat)} (p0 : H p = none) (pn : p ∉ Lm :: Lr :: Lq :: nas) (hp : StepsAt H' p (nodeV node)) : Bld D H Lm Lr Lq ws rows (nas ++ [p]) (nodes ++ [node]) (upd H' Lq (.lst (nas.map V.ref ++ [.ref p]))) := by
  obtain ⟨n1, n2, n3, n4, n5, n6, n7⟩ := b.neR
  simp only [List.mem_cons, not_or] at pn
  obtain ⟨p1, p2, p3, p4⟩ := pn
  refine ⟨Kp.fresh DA b.q0 b.kp, b.m0, b.r0, b.q0, fun c hc => ?_, by rw [upd_ne n2]; exact b.hm, by rw [upd_ne n3]; exact b.hr, by rw [upd_same, List.map_append]; rfl, ?_, paired_snoc (paired_mem (fun na hn node h => steps_off ⟨_, b.hq⟩ h (fun z => n6 (z ▸ hn))) b.nod) (steps_off ⟨_, b.hq⟩ hp p3)⟩
  · rcases List.mem_append.mp hc with h | h
    · exact b.f0 c h
    · rw [List.mem_singleton] at h; subst h; exact p0
  · have e : Lm :: Lr :: Lq :: (nas ++ [p]) = (Lm :: Lr :: Lq :: nas) ++ [p] := rfl
    rw [e, List.nodup_append]
    refine ⟨b.nd, by simp, fun x hx y hy z => ?_⟩
    rw [List.mem_singleton] at hy
    subst hy
    subst z
    simp only [List.mem_cons] at hx
    rcases hx with h | h | h | h
    · exact p1 h
    · exact p2 h
    · exact p3 h
    · exact p4 h
theorem Bld.new (b : Bld D H Lm Lr Lq ws rows nas nodes H') {p : Addr} (hp : H' p = none) : p ∉ Lm :: Lr :: Lq :: nas := fun h => by
  simp only [List.mem_cons] at h
  rcases h with h | h | h | h
  · rw [h, b.hm] at hp; cases hp
  · rw [h, b.hr] at hp; cases hp
  · rw [h, b.hq] at hp; cases hp
  · obtain ⟨i, hi, e⟩ := List.mem_iff_getElem.mp h
    obtain ⟨node, _, vs, h1, _⟩ := paired_get b.nod (i := i) (x := p) (by rw [List.getElem?_eq_getElem hi, e])
    rw [hp] at h1; cases h1
theorem paired_set {α β : Type} {F G : α → β → Prop} : ∀ {xs : List α} {ys : List β} {i : Nat} {x : α} {y : β}, xs.Nodup → xs[i]? = some x → (∀ x' ∈ xs, x' ≠ x → ∀ y, F x' y → G x' y) → G x y → Paired F xs ys → Paired G xs (ys.set i y)
  | _, _, _, _, _, _, e, _, _, .nil => by simp at e
  | _, _, 0, _, _, nd, e, h, g, .cons a t => by
    simp at e
    subst e
    rw [List.nodup_cons] at nd
    exact .cons g (paired_mem (fun x' hx' y => h x' (List.mem_cons_of_mem _ hx') (fun z => nd.1 (z ▸ hx')) y) t)
  | _, _, i + 1, x, _, nd, e, h, g, .cons a t => by
    rw [List.nodup_cons] at nd
    have e' := e
    simp at e'
    exact .cons (h _ List.mem_cons_self (fun z => nd.1 (z ▸ List.mem_of_getElem? e')) _ a) (paired_set nd.2 e' (fun x' hx' => h x' (List.mem_cons_of_mem _ hx')) g t)
theorem Bld.addTurn (b : Bld D H Lm Lr Lq ws rows nas nodes H') (DA : D.At H) {i : Nat} {na t : Addr} {vs : List V} {nm : Str} {to : Nat} (hi : nas[i]? = some na) (hv : H' na = some (.lst vs)) (ht : H' t = some (.tup [.str nm, .int (to : Int)])) :
    Bld D H Lm Lr Lq ws rows nas (nodes.set i (nodes.getD i [] ++ [(nm, to)])) (upd H' na (.lst (vs ++ [.ref t]))) := by
  obtain ⟨n1, n2, n3, n4, n5, n6, n7⟩ := b.neR
  have hm := List.mem_of_getElem? hi
  have f0 := b.f0 na hm
  have m1 : Lm ≠ na := fun z => n4 (z ▸ hm)
  have m2 : Lr ≠ na := fun z => n5 (z ▸ hm)
  have m3 : Lq ≠ na := fun z => n6 (z ▸ hm)
  refine ⟨Kp.fresh DA f0 b.kp, b.m0, b.r0, b.q0, b.f0, by rw [upd_ne m1]; exact b.hm, by rw [upd_ne m2]; exact b.hr, by rw [upd_ne m3]; exact b.hq, b.nd, paired_set n7 hi (fun x' hx' ne node h => steps_off ⟨_, hv⟩ h ne) ?_ b.nod⟩
  obtain ⟨node, hn, vs', h1, h2⟩ := paired_get b.nod hi
  rw [hv] at h1
  cases h1
  have en : nodes.getD i [] = node := by rw [List.getD_eq_getElem?_getD, hn]; rfl
  rw [en]
  refine ⟨vs ++ [.ref t], upd_same, ?_⟩
  unfold nodeV at h2 ⊢
  rw [List.map_append]
  have nt : ∀ {c xs}, H' c = some (.tup xs) → c ≠ na := fun q z => by rw [z, hv] at q; cases q
  exact paired_snoc (paired_mono (fun v s ⟨c, e, q⟩ => ⟨c, e, by rw [upd_ne (nt q)]; exact q⟩) h2) ⟨t, rfl, by rw [upd_ne (nt ht)]; exact ht⟩
end
theorem getD_set_eq {α : Type} {xs : List α} {i : Nat} {x d : α} (h : i < xs.length) : (xs.set i x).getD i d = x := by
  rw [List.getD_eq_getElem?_getD, List.getElem?_set_self h]; rfl
theorem getD_set_ne {α : Type} {xs : List α} {i j : Nat} {x d : α} (h : i ≠ j) : (xs.set i x).getD j d = xs.getD j d := by
  rw [List.getD_eq_getElem?_getD, List.getElem?_set_ne h, List.getD_eq_getElem?_getD]
theorem getD_app_lt {α : Type} {xs ys : List α} {i : Nat} {d : α} (h : i < xs.length) : (xs ++ ys).getD i d = xs.getD i d := by
  rw [List.getD_eq_getElem?_getD, List.getElem?_append_left h, List.getD_eq_getElem?_getD]
theorem getD_app_last {α : Type} {xs : List α} {y d : α} : (xs ++ [y]).getD xs.length d = y := by
  rw [List.getD_eq_getElem?_getD, List.getElem?_append_right (Nat.le_refl _)]; simp
theorem getD_mem {α : Type} {xs : List α} {i : Nat} {d : α} (h : i < xs.length) : xs.getD i d ∈ xs := by
  rw [List.getD_eq_getElem?_getD, List.getElem?_eq_getElem h]; exact List.getElem_mem h
theorem getD_out {α : Type} {xs : List α} {i : Nat} {d : α} (h : xs.length ≤ i) : xs.getD i d = d := by
  rw [List.getD_eq_getElem?_getD, List.getElem?_eq_none h]; rfl
theorem ndn_set {nodes : List (List (Str × Nat))} {i : Nat} {nm : Str} {to : Nat} (h : ∀ node ∈ nodes, (node.map (·.1)).Nodup) (hi : i < nodes.length) (new : nm ∉ (nodes.getD i []).map (·.1)) : ∀ node ∈ nodes.set i (nodes.getD i [] ++ [(nm, to)]), (node.map (·.1)).Nodup := fun node hn => by
  rcases List.mem_or_eq_of_mem_set hn with h1 | h1
  · exact h node h1
  · subst h1
    rw [List.map_append, List.nodup_append]
    refine ⟨h _ (getD_mem hi), by simp, fun a ha b hb z => ?_⟩
    have : b = nm := by simpa using hb
    subst this
    subst z
    exact new ha
theorem Gr.grow {ws rows : List Str} {nodes : List (List (Str × Nat))} (g : Gr ws rows nodes) (nd : ws.Nodup) {i k : Nat} (hi : i < nodes.length) (hk : k < ws.length) (new : ws[k] ∉ (nodes.getD i []).map (·.1)) :
    Gr ws (rows ++ [turnT (rows.getD i "") k]) ((nodes.set i (nodes.getD i [] ++ [(ws[k], nodes.length)])) ++ [[]]) := by
  have lr := g.len
  have ls : (nodes.set i (nodes.getD i [] ++ [(ws[k], nodes.length)])).length = nodes.length := List.length_set
  have gi : StOk ws.length (rows.getD i "") := g.rok _ (getD_mem (by omega))
  have ik : ws.idxOf ws[k] = k := List.Nodup.idxOf_getElem nd k hk
  refine ⟨by rw [List.length_append, List.length_append, ls]; simp [lr], by rw [List.length_append]; simp, fun y hy => ?_, fun j p hp => ?_, fun node hn => ?_⟩
  · rcases List.mem_append.mp hy with h | h
    · exact g.rok y h
    · rw [List.mem_singleton] at h; subst h; exact turn_ok gi hk
  · rw [List.length_append, ls]
    by_cases cj : j < nodes.length
    · rw [getD_app_lt (by rw [ls]; exact cj)] at hp
      rw [getD_app_lt (xs := rows) (i := j) (by omega)]
      by_cases e : i = j
      · subst e
        rw [getD_set_eq hi] at hp
        rcases List.mem_append.mp hp with h | h
        · obtain ⟨h1, h2, h3⟩ := g.edge i p h
          exact ⟨h1, by omega, by rw [getD_app_lt (by omega)]; exact h3⟩
        · rw [List.mem_singleton] at h
          subst h
          refine ⟨List.getElem_mem hk, by simp, ?_⟩
          show (rows ++ [turnT (rows.getD i "") k]).getD nodes.length "" = _
          rw [← lr, getD_app_last, ik]
      · rw [getD_set_ne e] at hp
        obtain ⟨h1, h2, h3⟩ := g.edge j p hp
        exact ⟨h1, by omega, by rw [getD_app_lt (by omega)]; exact h3⟩
    · exfalso
      by_cases e : j = nodes.length
      · subst e
        have q := getD_app_last (xs := nodes.set i (nodes.getD i [] ++ [(ws[k], nodes.length)])) (y := []) (d := [])
        rw [ls] at q
        rw [q] at hp
        nomatch hp
      · rw [getD_out (by rw [List.length_append, ls]; simp; omega)] at hp
        nomatch hp
  · rcases List.mem_append.mp hn with h | h
    · exact ndn_set g.ndn hi new node h
    · rw [List.mem_singleton] at h; subst h; exact List.nodup_nil
theorem Gr.turn {ws rows : List Str} {nodes : List (List (Str × Nat))} (g : Gr ws rows nodes) (nd : ws.Nodup) {i k to : Nat} (hi : i < nodes.length) (hk : k < ws.length) (ht : to < nodes.length) (he : rows.getD to "" = turnT (rows.getD i "") k) (new : ws[k] ∉ (nodes.getD i []).map (·.1)) :
    Gr ws rows (nodes.set i (nodes.getD i [] ++ [(ws[k], to)])) := by
  have ls : (nodes.set i (nodes.getD i [] ++ [(ws[k], to)])).length = nodes.length := List.length_set
  have ik : ws.idxOf ws[k] = k := List.Nodup.idxOf_getElem nd k hk
  refine ⟨by rw [ls]; exact g.len, by rw [ls]; exact g.pos, g.rok, fun j p hp => ?_, ndn_set g.ndn hi new⟩
  rw [ls]
  by_cases e : i = j
  · subst e
    rw [getD_set_eq hi] at hp
    rcases List.mem_append.mp hp with h | h
    · exact g.edge i p h
    · rw [List.mem_singleton] at h
      subst h
      exact ⟨List.getElem_mem hk, ht, by rw [ik]; exact he⟩
  · rw [getD_set_ne e] at hp
    exact g.edge j p hp
structure DrawnOk (s : Sh) : Prop where
  ok : ShOk s
  lab : ∃ lam, Lab s lam
  n40 : s.nodes.length ≤ 40
  i4 : s.ins.length ≤ 4
  o1 : 1 ≤ s.outs.length
  o7 : s.outs.length ≤ 7
  sub : ∀ x ∈ s.ws, x ∈ SPARE
  ndn : ∀ node ∈ s.nodes, (node.map (·.1)).Nodup
theorem Gr.drawn {ws rows : List Str} {nodes ex : List (List (Str × Nat))} (g : Gr ws rows nodes) (nd : ws.Nodup) {i : Nat} (hi : i < ws.length) (i4 : i ≤ 4) (o7 : ws.length - i ≤ 7) (sub : ∀ x ∈ ws, x ∈ SPARE) (n40 : nodes.length + ex.length ≤ 40)
    (hex : ∀ node ∈ ex, ∃ nm to, node = [(nm, to)] ∧ nm ∈ ws ∧ to < nodes.length + ex.length) : DrawnOk ⟨ws.take i, ws.drop i, rows.getD 0 "", nodes ++ ex⟩ := by
  have ew : Sh.ws ⟨ws.take i, ws.drop i, rows.getD 0 "", nodes ++ ex⟩ = ws := List.take_append_drop i ws
  have lr := g.len
  have lp := g.pos
  have mem : ∀ node ∈ nodes, ∃ j, j < nodes.length ∧ nodes.getD j [] = node := fun node hn => by
    obtain ⟨j, hj, e⟩ := List.mem_iff_getElem.mp hn
    exact ⟨j, hj, by rw [List.getD_eq_getElem?_getD, List.getElem?_eq_getElem hj, e]; rfl⟩
  have rl : ∀ j, Sh.R ⟨ws.take i, ws.drop i, rows.getD 0 "", nodes ++ ex⟩ j → j < nodes.length := fun j r => by
    induction r with
    | start => exact lp
    | @step a b _ hb ih =>
      obtain ⟨p, hp, rfl⟩ := List.mem_map.mp hb
      have hp : p ∈ (nodes ++ ex).getD a [] := hp
      rw [getD_app_lt ih] at hp
      exact (g.edge a p hp).2.1
  have ndx : ∀ node ∈ nodes ++ ex, (node.map (·.1)).Nodup := fun node hn => by
    rcases List.mem_append.mp hn with h | h
    · exact g.ndn node h
    · obtain ⟨nm, to, rfl, _⟩ := hex node h; simp
  have names : ∀ node ∈ nodes ++ ex, ∀ p ∈ node, p.1 ∈ ws ∧ p.2 < nodes.length + ex.length := fun node hn p hp => by
    rcases List.mem_append.mp hn with h | h
    · obtain ⟨j, hj, rfl⟩ := mem node h
      have := g.edge j p hp
      exact ⟨this.1, by omega⟩
    · obtain ⟨nm, to, rfl, h1, h2⟩ := hex node h
      rw [List.mem_singleton] at hp
      subst hp
      exact ⟨h1, h2⟩
  refine ⟨⟨by rw [ew]; exact nd, by rw [ew]; omega, by rw [ew]; omega, by rw [ew]; exact g.rok _ (getD_mem (by omega)), ?_, ?_, fun node hn p hp => by rw [ew]; exact (names node hn p hp).1, fun node hn p hp => ?_, fun node hn => ?_⟩, ⟨fun j => rows.getD j "", rfl, fun j r p hp => ?_⟩, ?_, ?_, ?_, ?_, by rw [ew]; exact sub, ndx⟩
  · show 1 ≤ (nodes ++ ex).length
    rw [List.length_append]; omega
  · show (nodes ++ ex).length ≤ 100
    rw [List.length_append]; omega
  · show p.2 < (nodes ++ ex).length
    rw [List.length_append]; exact (names node hn p hp).2
  · have := Bf.pigeon (node.map (·.1)) ws (ndx node hn) fun x hx => by
      obtain ⟨p, hp, rfl⟩ := List.mem_map.mp hx
      exact (names node hn p hp).1
    rw [List.length_map] at this
    omega
  · have hj := rl j r
    have hp : p ∈ (nodes ++ ex).getD j [] := hp
    rw [getD_app_lt hj] at hp
    rw [ew]
    exact (g.edge j p hp).2.2
  · show (nodes ++ ex).length ≤ 40
    rw [List.length_append]; omega
  · show (ws.take i).length ≤ 4
    rw [List.length_take]; omega
  · show 1 ≤ (ws.drop i).length
    rw [List.length_drop]; omega
  · show (ws.drop i).length ≤ 7
    rw [List.length_drop]; omega
set_option Elab.async false
set_option linter.all false
set_option maxRecDepth 100000
set_option maxHeartbeats 4000000

theorem inV_str {nm : Str} : ∀ {ns : List Str}, inV (.str nm) (ns.map V.str) = true ↔ nm ∈ ns
  | [] => by simp [inV]
  | x :: ns => by
    have ih := inV_str (nm := nm) (ns := ns)
    unfold inV at ih ⊢
    rw [List.map_cons, List.any_cons, Bool.or_eq_true, ih, List.mem_cons]
    have : eqV (.str x) (.str nm) = true ↔ nm = x := by
      show decide (x = nm) = true ↔ _
      rw [decide_eq_true_iff]
      exact ⟨fun h => h.symm, fun h => h.symm⟩
    rw [this]
theorem flat_strs (ns : List Str) : (ns.map V.str).all flatV = true := by
  rw [List.all_eq_true]
  intro x hx
  obtain ⟨y, _, rfl⟩ := List.mem_map.mp hx
  rfl
section
variable {K : PySem.W.Frag} {σ : St} {H : Hp}
theorem i_namesC {Q : VK} {i j h : Nat} {Lq na : Addr} {nas : List Addr} {node : List (Str × Nat)} (hi : σ[i]? = some (some (.ref Lq))) (hj : σ[j]? = some (some (.int (h : Int)))) (hq : H Lq = some (.lst (nas.map V.ref))) (hna : nas[h]? = some na) (st : StepsAt H na (nodeV node)) (few : node.length ≤ 1000)
    (q : ∀ L H', Same H H' → H L = none → H' L = some (.lst ((node.map (·.1)).map V.str)) → Q (.ref L) H') :
    tComp (iList K (tOp (rIxL K) (tVar i) (tVar j))) (gTup K 2 (gCons (gName 0) (gCons (gName 1) gNil))) tYes (tVar 0) (blockSt ["name", "to"] []) σ H Q := by
  have big : 1000 < sizeLine := by decide
  obtain ⟨vs, hv, pr⟩ := st
  refine i_comp (s_list (i_op (i_var hi (i_var hj (i_ixL (v := .ref na) (SqL.of hq) (atI_nat (by rw [List.getElem?_map, hna]; rfl)) ⟨na, rfl, ⟨_, SqL.of hv⟩, fun L hL => ?_⟩)))))
  refine comp_list (xs := vs) (fun n H' ys => Same H H' ∧ H' L = some (.lst ys) ∧ ys = ((node.map (·.1)).map V.str).take n) ⟨fresh_same hL, upd_same, by simp⟩ (fun n H' ys pv => ⟨pv.2.1, SqL.of (pv.1 _ _ hv)⟩) (fun n x H' ys e pv => ?_) (fun H' ys pv => ?_)
  · obtain ⟨S, hl, rfl⟩ := pv
    obtain ⟨st, hst, b, rfl, hb⟩ := paired_get pr e
    unfold nodeV at hst
    rw [List.getElem?_map] at hst
    cases hp : node[n]? with
    | none => rw [hp] at hst; cases hst
    | some p =>
      rw [hp] at hst
      cases hst
      have hn : n < vs.length := (List.getElem?_eq_some_iff.mp e).1
      refine ⟨b, _, rfl, SqT.of (S _ _ hb), rfl, _, _, rfl, s_name ⟨_, _, rfl, s_name ⟨rfl, trivial, i_yes (iteT (i_var rfl ?_))⟩⟩⟩
      refine NextC.mk hl hn (by rw [List.length_take, List.length_map, List.length_map]; omega) ⟨same_upd S hL, upd_same, ?_⟩
      rw [List.take_succ, List.getElem?_map, List.getElem?_map, hp]; rfl
  · obtain ⟨S, hl, rfl⟩ := pv
    have lv : vs.length = node.length := by have := paired_len pr; unfold nodeV at this; rwa [List.length_map] at this
    refine q L H' S hL (by rw [hl, List.take_of_length_le (by rw [List.length_map, List.length_map]; omega)])
theorem i_newName {R : Bool → Hp → Prop} {a b i j h k : Nat} {Lm Lq na : Addr} {nas : List Addr} {ws : List Str} {node : List (Str × Nat)} {nm : Str} (ha : σ[a]? = some (some (.ref Lm))) (hb : σ[b]? = some (some (.int (k : Int)))) (hm : H Lm = some (.lst (ws.map V.str))) (hk : ws[k]? = some nm)
    (hi : σ[i]? = some (some (.ref Lq))) (hj : σ[j]? = some (some (.int (h : Int)))) (hq : H Lq = some (.lst (nas.map V.ref))) (hna : nas[h]? = some na) (st : StepsAt H na (nodeV node)) (few : node.length ≤ 1000)
    (q : ∀ H', Same H H' → R (!decide (nm ∈ node.map (·.1))) H') :
    tTest (tOp (rIn K true) (tOp (rIxL K) (tVar a) (tVar b)) (tComp (iList K (tOp (rIxL K) (tVar i) (tVar j))) (gTup K 2 (gCons (gName 0) (gCons (gName 1) gNil))) tYes (tVar 0) (blockSt ["name", "to"] []))) σ H R := by
  refine i_test (i_op (i_op (i_var ha (i_var hb (i_ixL (v := .str nm) (SqL.of hm) (atI_nat (by rw [List.getElem?_map, hk]; rfl)) ?_)))))
  refine i_namesC hi hj hq hna st few fun L H' S _ hL => ?_
  refine ⟨L, _, rfl, .inl (SqL.of hL), rfl, flat_strs _, _, rfl, ?_⟩
  have e : (if true = true then !inV (.str nm) ((node.map (·.1)).map V.str) else inV (.str nm) ((node.map (·.1)).map V.str)) = !decide (nm ∈ node.map (·.1)) := by
    rw [if_pos rfl]
    congr 1
    by_cases c : nm ∈ node.map (·.1)
    · rw [inV_str.mpr c, decide_eq_true c]
    · rw [decide_eq_false c]
      exact Bool.eq_false_iff.mpr fun z => c (inV_str.mp z)
  rw [e]
  exact q H' S
theorem i_neNil {R : Bool → Hp → Prop} {i : Nat} {l : Addr} {xs : List V} (hi : σ[i]? = some (some (.ref l))) (hl : H l = some (.lst xs)) (q : ∀ H', Same H H' → R (!decide (xs.length = 0)) H') : tTest (tOp (rEqL K true) (tVar i) (tLst tNil)) σ H R := by
  refine i_test (i_op (i_var hi (i_lst (i_nil ⟨by simp [sizeLine], fun p hp => ?_⟩))))
  refine ⟨l, p, xs, [], fun _ => true, rfl, rfl, SqL.of (fresh_same hp _ _ hl), SqL.of upd_same, fun j x y _ e => by simp at e, _, rfl, ?_⟩
  have e : (if true = true then !(xs.length == ([] : List V).length && (List.range xs.length).all fun _ => true) else (xs.length == ([] : List V).length && (List.range xs.length).all fun _ => true)) = !decide (xs.length = 0) := by
    rw [if_pos rfl, List.all_eq_true.mpr (fun _ _ => rfl), Bool.and_true]
    rfl
  rw [e]
  exact q _ (fresh_same hp)
end
noncomputable def intsN (ks : List Nat) : List V := ks.map fun (k : Nat) => V.int (k : Int)
theorem pick_nat {ks : List Nat} {r : Int} (h0 : 0 ≤ r) (h1 : r < ks.length) : ∃ k ∈ ks, atI (intsN ks) r = some (.int (k : Int)) := by
  have hr : r.toNat < ks.length := by omega
  refine ⟨ks[r.toNat], List.getElem_mem hr, ?_⟩
  have e : r = ((r.toNat : Nat) : Int) := by omega
  have q := atI_nat (xs := intsN ks) (j := r.toNat) (v := .int (ks[r.toNat] : Nat)) (by unfold intsN; rw [List.getElem?_map, List.getElem?_eq_getElem hr]; rfl)
  rw [← e] at q
  exact q
theorem Gr.few {ws rows : List Str} {nodes : List (List (Str × Nat))} (g : Gr ws rows nodes) (i : Nat) : (nodes.getD i []).length ≤ ws.length := by
  by_cases h : i < nodes.length
  · have := Bf.pigeon ((nodes.getD i []).map (·.1)) ws (g.ndn _ (getD_mem h)) fun x hx => by
      obtain ⟨p, hp, rfl⟩ := List.mem_map.mp hx
      exact (g.edge i p hp).1
    rwa [List.length_map] at this
  · rw [getD_out (by omega)]; exact Nat.zero_le _
theorem Bld.at {D : Dk} {H H' : Hp} {Lm Lr Lq : Addr} {ws rows : List Str} {nas : List Addr} {nodes : List (List (Str × Nat))} (b : Bld D H Lm Lr Lq ws rows nas nodes H') {i : Nat} (hi : i < nodes.length) : ∃ na, nas[i]? = some na ∧ StepsAt H' na (nodeV (nodes.getD i [])) := by
  obtain ⟨na, h1, h2⟩ := paired_get' b.nod (List.getElem?_eq_getElem hi)
  exact ⟨na, h1, by rw [List.getD_eq_getElem?_getD, List.getElem?_eq_getElem hi]; exact h2⟩
theorem Gr.row {ws rows : List Str} {nodes : List (List (Str × Nat))} (g : Gr ws rows nodes) {i : Nat} (hi : i < nodes.length) : rows[i]? = some (rows.getD i "") := by
  have := g.len
  rw [List.getD_eq_getElem?_getD, List.getElem?_eq_getElem (by omega)]; rfl
set_option Elab.async false
set_option linter.all false
set_option maxRecDepth 100000
set_option maxHeartbeats 4000000

structure Frm (s : Sh) : Prop where
  ok : ShOk s
  n40 : s.nodes.length ≤ 40
  i4 : s.ins.length ≤ 4
  o1 : 1 ≤ s.outs.length
  o7 : s.outs.length ≤ 7
  low : ∀ x ∈ s.ws, Low x
  ndn : ∀ node ∈ s.nodes, (node.map (·.1)).Nodup
noncomputable def spTurn : Sp := fun vs H Q _ => ∃ (t l : Addr) (ws : List Str) (nm : Str) (to m : Nat), vs = [.ref t, .ref l, .int (m : Int)] ∧ H t = some (.tup [.str nm, .int (to : Int)]) ∧ H l = some (.lst (ws.map V.str)) ∧ nm ∈ ws ∧ to < m ∧ Q (.bl true) H
noncomputable def spNode : Sp := fun vs H Q _ => ∃ (na l : Addr) (ws : List Str) (node : List (Str × Nat)) (m : Nat), vs = [.ref na, .ref l, .int (m : Int)] ∧ StepsAt H na (nodeV node) ∧ H l = some (.lst (ws.map V.str)) ∧ (∀ p ∈ node, p.1 ∈ ws ∧ p.2 < m) ∧ (node.map (·.1)).Nodup ∧ node.length ≤ 100 ∧ ∀ H', Same H H' → Q (.bl true) H'
noncomputable def spForm : Sp := fun vs H Q _ => ∃ (a li lo ln : Addr) (nas : List Addr) (s : Sh), vs = [.ref a] ∧ ShAt H a li lo ln nas s ∧ Frm s ∧ ∀ H', Same H H' → Q (.bl true) H'
noncomputable def spIsSh (TL : Addr) : Sp := fun vs H Q _ => ∃ (a li lo ln : Addr) (nas : List Addr) (s : Sh), vs = [.ref a] ∧ ShAt H a li lo ln nas s ∧ Frm s ∧ TbAt TL lmRows H ∧ ∀ (b : Bool) H', Tk TL H H' → (b = true ↔ ∃ lam, Lab s lam) → Q (.bl b) H'
theorem s_tup {K : PySem.W.Frag} {tl : TE} {σ : St} {H : Hp} {R : It → Hp → Prop} (q : tl σ H fun x H1 => ∃ a, x = .ref a ∧ (∃ xs, SqT K H1 a xs) ∧ R (Itt K a) H1) : iTup K tl σ H R := q
theorem steps_get {H : Hp} {vs : List V} {node : List (Str × Nat)} (pr : Paired (fun v (s : V × Key) => ∃ b, v = .ref b ∧ H b = some (.tup [s.1, kV s.2])) vs (nodeV node)) {i : Nat} {v : V} (e : vs[i]? = some v) : ∃ (p : Str × Nat) (b : Addr), node[i]? = some p ∧ v = .ref b ∧ H b = some (.tup [.str p.1, .int (p.2 : Int)]) := by
  obtain ⟨st, hst, b, rfl, hb⟩ := paired_get pr e
  unfold nodeV at hst
  rw [List.getElem?_map] at hst
  cases hp : node[i]? with
  | none => rw [hp] at hst; cases hst
  | some p =>
    rw [hp] at hst
    cases hst
    exact ⟨p, b, rfl, rfl, hb⟩
theorem steps_len {H : Hp} {vs : List V} {node : List (Str × Nat)} (pr : Paired (fun v (s : V × Key) => ∃ b, v = .ref b ∧ H b = some (.tup [s.1, kV s.2])) vs (nodeV node)) : vs.length = node.length := by
  have := paired_len pr
  unfold nodeV at this
  rwa [List.length_map] at this
theorem all_reps (n : Nat) : (List.replicate n true).all id = true := by simp
noncomputable def rho (kvs : List (Key × V)) (i : Nat) : Str := match valV kvs (Sum.inl (i : Int)) with
  | some (.str y) => y
  | _ => ""
theorem rho_of {kvs : List (Key × V)} {i : Nat} {y : Str} (h : valV kvs (Sum.inl (i : Int)) = some (.str y)) : rho kvs i = y := by unfold rho; rw [h]
section
variable {P : Program} {w : World} {K : PySem.W.Frag} {mg : Str → Option Value} {base : Heap} {TT : Addr}
theorem sc_is_turn : FnScope ["thing", "wires", "many"] ["thing", "wires", "many"] (defScope (top 17)) := ⟨rfl, rfl, rfl, by decide +kernel, rfl, by decide +kernel, by decide +kernel⟩
theorem ok_turn {f : Addr} {fd : FuncData} (Fu : Fun K "is_turn" "is_turn" (top 17) f fd) (T : Txt K mg TT) (f_is_pair : Fn P w K mg base "is_pair" ["thing"] 1 spPair) (f_is_number_below : Fn P w K mg base "is_number_below" ["thing", "bound"] 2 spBelow) : FnOk P w K mg base CX0 3 f fd ["thing", "wires", "many"] spTurn := by
  have S := sc_is_turn
  refine Fu.ok S (fun vs H Q E h => ?_) (fun cdv A outer s H vs Q E hr h => ?_)
  · obtain ⟨t, l, ws, nm, to, m, rfl, _⟩ := h
    rfl
  · obtain ⟨t, l, ws, nm, to, m, rfl, ht, hl, hnm, htm, q⟩ := h
    refine ⟨_, (pss_cons (ps_if (PW.pt (pw_or (pt_not (pt_val (pe_fn f_is_pair (hr.mono (by first | decide | omega)) (by rfl) (pa_cons (pv 0) pa_nil se_name)))) (pw_or (pt_not (pt_val (pe_callB call_isinst (by rfl) T.n_isinstance PyProof.Rows.boot_isinstance (pa_cons (pe_ix ix_tup (pv 0) pe_int (fun _ _ => rfl)) (pa_cons (pe_bltn (v := .ty "str") (by rfl) T.n_str PyProof.Rows.boot_str rfl) pa_nil se_name))))) (pw_or1 (pt_cmpR op_notIn_seq (pe_ix ix_tup (pv 0) pe_int (fun _ _ => rfl)) (pv 1) rfl))))) (pss_one (ps_ret pe_bl)) pss_nil)
      (pss_one (ps_ret (pe_fn f_is_number_below (hr.mono (by first | decide | omega)) (by rfl) (pa_cons (pe_ix ix_tup (pv 0) pe_int (fun _ _ => rfl)) (pa_cons (pv 2) pa_nil se_name)))))), ?_⟩
    try dsimp only [cxOf, Cx.nox, Cx.wish]
    rw [show L2.start ["thing", "wires", "many"] [V.ref t, V.ref l, V.int (m : Int)] = [some (.ref t), some (.ref l), some (.int (m : Int))] from rfl]
    repeat walk_at "vc"
    refine ⟨t, _, rfl, ht, by simp, _, rfl, iteF ?_⟩
    repeat walk_at "vc"
    refine ⟨_, _, _, _, rfl, TyOf.str nm, kit_same "str", _, rfl, iteF ?_⟩
    repeat walk_at "vc"
    refine ⟨l, _, rfl, .inl (SqL.of hl), rfl, flat_strs ws, _, rfl, ?_⟩
    refine ifF (by rw [if_pos rfl, inV_str.mpr hnm]; rfl) ?_
    repeat walk_at "vc"
    refine ⟨_, _, rfl, ?_⟩
    have e : decide (0 ≤ (to : Int) ∧ (to : Int) < (m : Int)) = true := decide_eq_true ⟨by omega, by omega⟩
    rw [e]
    exact q
theorem sc_is_node : FnScope ["thing", "wires", "many"] ["thing", "wires", "many"] (defScope (top 18)) := ⟨rfl, rfl, rfl, by decide +kernel, rfl, by decide +kernel, by decide +kernel⟩
theorem ok_node {f : Addr} {fd : FuncData} (Fu : Fun K "is_node" "is_node" (top 18) f fd) (T : Txt K mg TT) (f_is_turn : Fn P w K mg base "is_turn" ["thing", "wires", "many"] 3 spTurn) : FnOk P w K mg base CX0 4 f fd ["thing", "wires", "many"] spNode := by
  have S := sc_is_node
  refine Fu.ok S (fun vs H Q E h => ?_) (fun cdv A outer s H vs Q E hr h => ?_)
  · obtain ⟨na, l, ws, node, m, rfl, _⟩ := h
    rfl
  · obtain ⟨na, l, ws, node, m, rfl, ⟨vs, hv, pr⟩, hl, hp, nd, few, q⟩ := h
    refine ⟨_, (pss_cons (ps_if (PW.pt (pw_or (pt_not (pt_val (pe_callB call_isinst (by rfl) T.n_isinstance PyProof.Rows.boot_isinstance (pa_cons (pv 0) (pa_cons (pe_bltn (v := .ty "list") (by rfl) T.n_list PyProof.Rows.boot_list rfl) pa_nil se_name) se_name)))) (pw_or1 (pt_not (pt_val (pe_callB (call_all rfl) (by rfl) T.n_all PyProof.Rows.boot_all (pa_cons (pe_lc (tgs := ["part"]) (cap := [("wires", 1), ("many", 2)]) rfl ⟨rfl, rfl, rfl, rfl, rfl, rfl⟩ (pi_list (pv 0)) (fun _ _ _ _ => (pg_name (i := 0) (show List.Nodup [("part" : Str), ("wires" : Str), ("many" : Str)] by decide +kernel) rfl (by first | exact Or.inl rfl | exact Or.inr rfl))) (fun _ _ _ _ => pifs_nil) (fun _ _ _ _ => (pe_fn f_is_turn (hr.mono (by first | decide | omega)) (by rfl) (pa_cons (pv 0) (pa_cons (pv 1) (pa_cons (pv 2) pa_nil se_name) se_name) se_name)))) pa_nil))))))) (pss_one (ps_ret pe_bl)) pss_nil)
      (pss_one (ps_ret (pe_cmpR op_eq (pe_lenset rfl (by rfl) T.n_len (by rfl) T.n_set (pa_cons (pe_lc (tgs := ["turn"]) (cap := []) rfl ⟨rfl, rfl, rfl, rfl, rfl, rfl⟩ (pi_list (pv 0)) (fun _ _ _ _ => (pg_name (i := 0) (show List.Nodup [("turn" : Str)] by decide +kernel) rfl (by first | exact Or.inl rfl | exact Or.inr rfl))) (fun _ _ _ _ => pifs_nil) (fun _ _ _ _ => (pe_ix (ix_tupK (K := K) rfl) (pv 0) pe_int (fun _ _ => rfl)))) pa_nil)) (pe_callB call_len_seq (by rfl) T.n_len PySem.boot_len (pa_cons (pv 0) pa_nil se_name)) (nomark _))))), ?_⟩
    try dsimp only [cxOf, Cx.nox, Cx.wish]
    rw [show L2.start ["thing", "wires", "many"] [V.ref na, V.ref l, V.int (m : Int)] = [some (.ref na), some (.ref l), some (.int (m : Int))] from rfl]
    have big : 1000 < sizeLine := by decide
    have lv := steps_len pr
    repeat walk_at "vc"
    refine ⟨_, _, _, _, rfl, TyOf.lst hv, kit_same "list", _, rfl, iteF ?_⟩
    repeat walk_at "vc"
    refine i_comp (s_list (i_var rfl ⟨na, rfl, ⟨_, SqL.of hv⟩, fun L hL => ?_⟩))
    refine comp_list (xs := vs) (fun n H' ys => Same H H' ∧ H' L = some (.lst ys) ∧ ys = (List.replicate n true).map V.bl) ⟨fresh_same hL, upd_same, rfl⟩ (fun n H' ys p => ⟨p.2.1, SqL.of (p.1 _ _ hv)⟩) (fun n x H' ys e p => ?_) (fun H' ys p => ?_)
    · obtain ⟨Sm, hd, rfl⟩ := p
      obtain ⟨p, b, hpn, rfl, hb⟩ := steps_get pr e
      have hn : n < vs.length := (List.getElem?_eq_some_iff.mp e).1
      obtain ⟨h1, h2⟩ := hp p (List.mem_of_getElem? hpn)
      refine s_name ⟨by repeat' (first | exact trivial | refine ⟨rfl, ?_⟩), i_yes (iteT ?_)⟩
      refine i_call (i_cons (i_var rfl (i_cons (i_var rfl (i_cons (i_var rfl (i_nil ?_)))))))
      refine ⟨b, l, ws, p.1, p.2, m, rfl, Sm _ _ hb, Sm _ _ hl, h1, h2, ?_⟩
      refine NextC.mk hd hn (by rw [List.length_map, List.length_replicate]; omega) ⟨same_upd Sm hL, upd_same, ?_⟩
      rw [List.replicate_succ', List.map_append]; rfl
    obtain ⟨Sm, hd, rfl⟩ := p
    refine i_nil ⟨_, _, rfl, SqL.of hd, _, rfl, ?_⟩
    refine ifF (by rw [all_reps]; rfl) ?_
    have hv' := Sm _ _ hv
    repeat walk_at "vc"
    refine i_lens ?_
    repeat walk_at "vc"
    refine i_comp (s_list (i_var rfl ⟨na, rfl, ⟨_, SqL.of hv'⟩, fun L2 hL2 => ?_⟩))
    refine comp_list (xs := vs) (fun n H2 ys => Same H' H2 ∧ H2 L2 = some (.lst ys) ∧ ys = ((node.map (·.1)).take n).map V.str) ⟨fresh_same hL2, upd_same, by simp⟩ (fun n H2 ys p => ⟨p.2.1, SqL.of (p.1 _ _ hv')⟩) (fun n x H2 ys e p => ?_) (fun H2 ys p => ?_)
    · obtain ⟨S2, hd2, rfl⟩ := p
      obtain ⟨p, b, hpn, rfl, hb⟩ := steps_get pr e
      have hn : n < vs.length := (List.getElem?_eq_some_iff.mp e).1
      refine s_name ⟨by repeat' (first | exact trivial | refine ⟨rfl, ?_⟩), i_yes (iteT ?_)⟩
      refine i_op (i_var rfl (i_c (i_ixT ((Sm.trans S2) _ _ hb) rfl ?_)))
      refine NextC.mk hd2 hn (by rw [List.length_map, List.length_take, List.length_map]; omega) ⟨same_upd S2 hL2, upd_same, ?_⟩
      rw [List.take_succ, List.getElem?_map, hpn, List.map_append]; rfl
    obtain ⟨S2, hd2, rfl⟩ := p
    rw [List.take_of_length_le (by rw [List.length_map]; omega)] at hd2
    refine i_nil ⟨L2, _, rfl, SqL.of hd2, by rw [List.length_map]; omega, ?_⟩
    have hv2 := S2 _ _ hv'
    repeat walk_at "vc"
    have e2 : decide (V.int (uniq (node.map (·.1))) = V.int (vs.length : Nat)) = true := by
      rw [uniq_all.mpr nd, List.length_map, lv]; simp
    rw [e2]
    exact q H2 (Sm.trans S2)
theorem sc_has_wires : FnScope ["thing", "wires"] ["thing"] (defScope (top 19)) := ⟨rfl, rfl, rfl, by decide +kernel, rfl, by decide +kernel, by decide +kernel⟩
theorem ok_wiresH {f : Addr} {fd : FuncData} (Fu : Fun K "has_wires" "has_wires" (top 19) f fd) (T : Txt K mg TT) (f_are_unlike_names : Fn P w K mg base "are_unlike_names" ["things"] 2 spUnlike) (f_is_row : Fn P w K mg base "is_row" ["thing", "many"] 1 spRow) : FnOk P w K mg base CX0 3 f fd ["thing"] spForm := by
  have S := sc_has_wires
  refine Fu.ok S (fun vs H Q E h => ?_) (fun cdv A outer s H vs Q E hr h => ?_)
  · obtain ⟨a, li, lo, ln, nas, sh, rfl, _⟩ := h
    rfl
  · obtain ⟨a, li, lo, ln, nas, sh, rfl, at_, fr, q⟩ := h
    refine ⟨_, (pss_cons (ps_if (PW.pt (pw_or (pt_not (pt_val (pe_callB call_isinst (by rfl) T.n_isinstance PyProof.Rows.boot_isinstance (pa_cons (pv 0) (pa_cons (pe_bltn (v := .ty "tuple") (by rfl) T.n_tuple PyProof.Rows.boot_tuple rfl) pa_nil se_name) se_name)))) (pw_or1 (pt_cmpR op_ne (pe_callB call_len_seq (by rfl) T.n_len PySem.boot_len (pa_cons (pv 0) pa_nil se_name)) pe_int (nomark _))))) (pss_one (ps_ret pe_bl)) pss_nil)
      (pss_cons (ps_if (pt_not (pt_val (pe_callB (call_all rfl) (by rfl) T.n_all PyProof.Rows.boot_all (pa_cons (pe_lc (tgs := ["place"]) (cap := [("thing", 0)]) rfl ⟨rfl, rfl, rfl, rfl, rfl, rfl⟩ (pi_tup (pe_tup (pa_cons pe_int (pa_cons pe_int (pa_cons pe_int pa_nil se_con) se_con) se_con))) (fun _ _ _ _ => (pg_name (i := 0) (show List.Nodup [("place" : Str), ("thing" : Str)] by decide +kernel) rfl (by first | exact Or.inl rfl | exact Or.inr rfl))) (fun _ _ _ _ => pifs_nil) (fun _ _ _ _ => (pe_callB (call_isinstK (K := K) rfl) (by rfl) T.n_isinstance PyProof.Rows.boot_isinstance (pa_cons (pe_ix (ix_tupK (K := K) rfl) (pv 1) (pv 0) (fun _ _ => rfl)) (pa_cons (pe_bltn (v := .ty "list") (by rfl) T.n_list PyProof.Rows.boot_list rfl) pa_nil se_name))))) pa_nil)))) (pss_one (ps_ret pe_bl)) pss_nil)
      (pss_cons (ps_set (i := 1) S.nd rfl (by first | exact Or.inl rfl | exact Or.inr rfl) (pe_op op_cat (pe_ix ix_tup (pv 0) pe_int (fun _ _ => rfl)) (pe_ix ix_tup (pv 0) pe_int (fun _ _ => rfl))))
      (pss_one (ps_ret (pe_and (pe_cmpR op_ge (pe_callB call_len_seq (by rfl) T.n_len PySem.boot_len (pa_cons (pe_ix ix_tup (pv 0) pe_int (fun _ _ => rfl)) pa_nil)) pe_int (nomark _)) (pe_and (pe_fn f_are_unlike_names (hr.mono (by first | decide | omega)) (by rfl) (pa_cons (pv 1) pa_nil se_name)) (pe_one (pe_fn f_is_row (hr.mono (by first | decide | omega)) (by rfl) (pa_cons (pe_ix ix_tup (pv 0) pe_int (fun _ _ => rfl)) (pa_cons (pe_callB call_len_seq (by rfl) T.n_len PySem.boot_len (pa_cons (pv 1) pa_nil se_name)) pa_nil se_call))))))))))), ?_⟩
    try dsimp only [cxOf, Cx.nox, Cx.wish]
    rw [show L2.start ["thing", "wires"] [V.ref a] = [some (.ref a), none] from rfl]
    have big : 1000 < sizeLine := by decide
    have ha := at_.ha
    have w11 := fr.ok.w11
    have lw : (sh.ins.map V.str).length + (sh.outs.map V.str).length = sh.ws.length := by rw [List.length_map, List.length_map]; unfold Sh.ws; rw [List.length_append]
    repeat walk_at "vc"
    refine ⟨_, _, _, _, rfl, TyOf.tup ha, kit_same "tuple", _, rfl, iteF ?_⟩
    repeat walk_at "vc"
    refine ⟨a, _, rfl, .inr (SqT.of ha), ?_⟩
    repeat walk_at "vc"
    refine ifF rfl ?_
    repeat walk_at "vc"
    refine i_comp (s_tup ?_)
    repeat walk_at "vc"
    refine ⟨by simp [sizeLine], fun p hp => ?_⟩
    generalize hE : upd H p _ = H1
    obtain ⟨S1, q1⟩ := upd_pair hp hE
    clear hE
    have at1 := at_.same S1
    refine ⟨p, rfl, ⟨_, SqT.of q1⟩, fun L hL => ?_⟩
    refine comp_tup (xs := [.int 0, .int 1, .int 3]) (fun n H' ys => Same H1 H' ∧ H' L = some (.lst ys) ∧ ys = (List.replicate n true).map V.bl) ⟨fresh_same hL, upd_same, rfl⟩ (fun n H' ys p => ⟨p.2.1, SqT.of (p.1 _ _ q1)⟩) (fun n x H' ys e p => ?_) (fun H2 ys p => ?_)
    · obtain ⟨Sm, hd, rfl⟩ := p
      have hn : n < 3 := by simpa using (List.getElem?_eq_some_iff.mp e).1
      obtain ⟨b, xs, eb, hb⟩ : ∃ (b : Addr) (xs : List V), (∃ j : Int, x = .int j ∧ atI [V.ref li, V.ref lo, V.str sh.z, V.ref ln] j = some (.ref b)) ∧ H1 b = some (.lst xs) := by
        match n, e with
        | 0, e => cases e; exact ⟨li, _, ⟨0, rfl, rfl⟩, at1.hi⟩
        | 1, e => cases e; exact ⟨lo, _, ⟨1, rfl, rfl⟩, at1.ho⟩
        | 2, e => cases e; exact ⟨ln, _, ⟨3, rfl, rfl⟩, at1.hn⟩
      obtain ⟨j, rfl, ej⟩ := eb
      refine s_name ⟨by repeat' (first | exact trivial | refine ⟨rfl, ?_⟩), i_yes (iteT ?_)⟩
      refine i_cb (i_cons (i_op (i_var rfl (i_var rfl (i_ixT (Sm _ _ at1.ha) ej (i_cons (i_c (i_nil ?_))))))))
      refine ⟨_, _, _, _, rfl, TyOf.lst (Sm _ _ hb), kit_same "list", ?_⟩
      refine NextC.mk hd (by simpa using hn) (by rw [List.length_map, List.length_replicate]; omega) ⟨same_upd Sm hL, upd_same, ?_⟩
      rw [List.replicate_succ', List.map_append]; rfl
    obtain ⟨Sm, hd, rfl⟩ := p
    refine i_nil ⟨_, _, rfl, SqL.of hd, _, rfl, ?_⟩
    refine ifF (by rw [all_reps]; rfl) ?_
    have at2 := at1.same Sm
    have ha2 := at2.ha
    repeat walk_at "vc"
    refine i_cat at2.hi at2.ho (by omega) fun Lw hLw => ?_
    rw [← List.map_append]
    generalize hE : upd H2 Lw _ = H3
    obtain ⟨S3, q3⟩ := upd_pair hLw hE
    clear hE
    have q3 : H3 Lw = some (.lst (sh.ws.map V.str)) := q3
    have at3 := at2.same S3
    have ha3 := at3.ha
    have ho3 := at3.ho
    repeat walk_at "vc"
    rw [List.length_map]
    refine ifT (decide_eq_true (by have := fr.o1; omega)) ?_
    repeat walk_at "vc"
    refine ⟨Lw, _, rfl, q3, by omega, fr.low, fun H4 S4 => ?_⟩
    have ha4 := S4 _ _ ha3
    have q4 := S4 _ _ q3
    refine ⟨_, rfl, ifT (decide_eq_true fr.ok.nd) ?_⟩
    repeat walk_at "vc"
    refine ⟨_, sh.ws.length, by rw [List.length_map], w11, fr.ok.st, fun H5 S5 => ?_⟩
    exact q H5 (S1.trans (Sm.trans (S3.trans (S4.trans S5))))
theorem sc_has_sheet_form : FnScope ["thing", "wires", "many"] ["thing"] (defScope (top 20)) := ⟨rfl, rfl, rfl, by decide +kernel, rfl, by decide +kernel, by decide +kernel⟩
theorem ok_form {f : Addr} {fd : FuncData} (Fu : Fun K "has_sheet_form" "has_sheet_form" (top 20) f fd) (T : Txt K mg TT) (f_has_wires : Fn P w K mg base "has_wires" ["thing"] 3 spForm) (f_is_node : Fn P w K mg base "is_node" ["thing", "wires", "many"] 4 spNode) : FnOk P w K mg base CX0 5 f fd ["thing"] spForm := by
  have S := sc_has_sheet_form
  refine Fu.ok S (fun vs H Q E h => ?_) (fun cdv A outer s H vs Q E hr h => ?_)
  · obtain ⟨a, li, lo, ln, nas, sh, rfl, _⟩ := h
    rfl
  · obtain ⟨a, li, lo, ln, nas, sh, rfl, at_, fr, q⟩ := h
    obtain ⟨_, gMI⟩ := T.mINPUTS
    obtain ⟨_, gMG⟩ := T.mGATES
    obtain ⟨_, gMN⟩ := T.mNODES
    refine ⟨_, (pss_cons (ps_if (PW.pt (pw_or (pt_not (pt_val (pe_fn f_has_wires (hr.mono (by first | decide | omega)) (by rfl) (pa_cons (pv 0) pa_nil se_name)))) (pw_or (pt_cmpR op_gt (pe_callB call_len_seq (by rfl) T.n_len PySem.boot_len (pa_cons (pe_ix ix_tup (pv 0) pe_int (fun _ _ => rfl)) pa_nil)) (pe_glob (v := .int 4) (by rfl) gMI ⟨_, rfl⟩) (nomark _)) (pw_or1 (pt_cmpR op_gt (pe_callB call_len_seq (by rfl) T.n_len PySem.boot_len (pa_cons (pe_ix ix_tup (pv 0) pe_int (fun _ _ => rfl)) pa_nil)) (pe_glob (v := .int 7) (by rfl) gMG ⟨_, rfl⟩) (nomark _)))))) (pss_one (ps_ret pe_bl)) pss_nil)
      (pss_cons (ps_set (i := 1) S.nd rfl (by first | exact Or.inl rfl | exact Or.inr rfl) (pe_op op_cat (pe_ix ix_tup (pv 0) pe_int (fun _ _ => rfl)) (pe_ix ix_tup (pv 0) pe_int (fun _ _ => rfl))))
      (pss_cons (ps_set (i := 2) S.nd rfl (by first | exact Or.inl rfl | exact Or.inr rfl) (pe_callB call_len_seq (by rfl) T.n_len PySem.boot_len (pa_cons (pe_ix ix_tup (pv 0) pe_int (fun _ _ => rfl)) pa_nil)))
      (pss_one (ps_ret (pe_and (pe_chain op_le op_le pe_int (pv 2) (pe_glob (v := .int 40) (by rfl) gMN ⟨_, rfl⟩)) (pe_one (pe_callB (call_all rfl) (by rfl) T.n_all PyProof.Rows.boot_all (pa_cons (pe_lc (tgs := ["part"]) (cap := [("wires", 1), ("many", 2)]) rfl ⟨rfl, rfl, rfl, rfl, rfl, rfl⟩ (pi_list (pe_ix ix_tup (pv 0) pe_int (fun _ _ => rfl))) (fun _ _ _ _ => (pg_name (i := 0) (show List.Nodup [("part" : Str), ("wires" : Str), ("many" : Str)] by decide +kernel) rfl (by first | exact Or.inl rfl | exact Or.inr rfl))) (fun _ _ _ _ => pifs_nil) (fun _ _ _ _ => (pe_fn f_is_node (hr.mono (by first | decide | omega)) (by rfl) (pa_cons (pv 0) (pa_cons (pv 1) (pa_cons (pv 2) pa_nil se_name) se_name) se_name)))) pa_nil))))))))), ?_⟩
    try dsimp only [cxOf, Cx.nox, Cx.wish]
    rw [show L2.start ["thing", "wires", "many"] [V.ref a] = [some (.ref a), none, none] from rfl]
    have big : 1000 < sizeLine := by decide
    have w11 := fr.ok.w11
    have lw : (sh.ins.map V.str).length + (sh.outs.map V.str).length = sh.ws.length := by rw [List.length_map, List.length_map]; unfold Sh.ws; rw [List.length_append]
    repeat walk_at "vc"
    refine ⟨a, li, lo, ln, nas, sh, rfl, at_, fr, fun H1 S1 => ?_⟩
    have at1 := at_.same S1
    have ha1 := at1.ha
    have hi1 := at1.hi
    have ho1 := at1.ho
    refine ⟨_, rfl, iteF ?_⟩
    repeat walk_at "vc"
    rw [List.length_map]
    refine ifF (decide_eq_false (by have := fr.i4; omega)) ?_
    repeat walk_at "vc"
    rw [List.length_map]
    refine ifF (decide_eq_false (by have := fr.o7; omega)) ?_
    repeat walk_at "vc"
    refine i_cat hi1 ho1 (by omega) fun Lw hLw => ?_
    rw [← List.map_append]
    generalize hE : upd H1 Lw _ = H2
    obtain ⟨S2, q2⟩ := upd_pair hLw hE
    clear hE
    have q2 : H2 Lw = some (.lst (sh.ws.map V.str)) := q2
    have at2 := at1.same S2
    have ha2 := at2.ha
    have hn2 := at2.hn
    have lnas := paired_len at2.nodes
    repeat walk_at "vc"
    rw [List.length_map, lnas]
    refine i_chain ?_
    repeat walk_at "vc"
    refine ifT (decide_eq_true (by have := fr.ok.n1; omega)) ?_
    repeat walk_at "vc"
    refine ifT (decide_eq_true (by have := fr.n40; omega)) ?_
    repeat walk_at "vc"
    refine i_comp (s_list (i_op (i_var rfl (i_c (i_ixT ha2 rfl ⟨ln, rfl, ⟨_, SqL.of hn2⟩, fun L hL => ?_⟩)))))
    refine comp_list (xs := nas.map V.ref) (fun n H' ys => Same H2 H' ∧ H' L = some (.lst ys) ∧ ys = (List.replicate n true).map V.bl) ⟨fresh_same hL, upd_same, rfl⟩ (fun n H' ys p => ⟨p.2.1, SqL.of (p.1 _ _ hn2)⟩) (fun n x H' ys e p => ?_) (fun H3 ys p => ?_)
    · obtain ⟨Sm, hd, rfl⟩ := p
      have hn : n < (nas.map V.ref).length := (List.getElem?_eq_some_iff.mp e).1
      rw [List.getElem?_map] at e
      cases en : nas[n]? with
      | none => rw [en] at e; cases e
      | some na =>
        rw [en] at e
        cases e
        obtain ⟨node, hnode, hst⟩ := paired_get at2.nodes en
        have hm := List.mem_of_getElem? hnode
        refine s_name ⟨by repeat' (first | exact trivial | refine ⟨rfl, ?_⟩), i_yes (iteT ?_)⟩
        refine i_call (i_cons (i_var rfl (i_cons (i_var rfl (i_cons (i_var rfl (i_nil ?_)))))))
        refine ⟨na, Lw, sh.ws, node, sh.nodes.length, rfl, hst.same Sm, Sm _ _ q2, fun p hp => ⟨fr.ok.names _ hm p hp, fr.ok.tos _ hm p hp⟩, fr.ndn _ hm, fr.ok.few _ hm, fun H'' S'' => ?_⟩
        refine NextC.mk (S'' _ _ hd) hn (by rw [List.length_map, List.length_replicate]; rw [List.length_map] at hn; have := fr.n40; omega) ⟨same_upd (Sm.trans S'') hL, upd_same, ?_⟩
        rw [List.replicate_succ', List.map_append]; rfl
    obtain ⟨Sm, hd, rfl⟩ := p
    refine i_nil ⟨_, _, rfl, SqL.of hd, ?_⟩
    rw [all_reps]
    exact q H3 (S1.trans (S2.trans Sm))
theorem sc_has_one_row_each : FnScope ["sheet", "rows", "node"] ["sheet"] (defScope (top 23)) := ⟨rfl, rfl, rfl, by decide +kernel, rfl, by decide +kernel, by decide +kernel⟩
theorem ok_oneRow {TL : Addr} {f : Addr} {fd : FuncData} (Fu : Fun K "has_one_row_each" "has_one_row_each" (top 23) f fd) (T : Txt K mg TT) (f_rows_found : Fn P w K mg base "rows_found" ["sheet"] 3 (spRows TL)) (f_row_behind : Fn P w K mg base "row_behind" ["sheet", "row", "name"] 2 spBehind) : FnOk P w K mg base CX0 4 f fd ["sheet"] (spIsSh TL) := by
  have S := sc_has_one_row_each
  refine Fu.ok S (fun vs H Q E h => ?_) (fun cdv A outer s H vs Q E hr h => ?_)
  · obtain ⟨a, li, lo, ln, nas, sh, rfl, _⟩ := h
    rfl
  · obtain ⟨a, li, lo, ln, nas, sh, rfl, at_, fr, tb, q⟩ := h
    have hu := hu_of hr
    refine' ⟨?_, ?bb, ?_⟩
    case bb =>
      refine' pss_cons ?s1 ?r1
      case s1 =>
        refine' ps_set (i := 1) ?n ?r ?l ?e ?s ?f
        case n => exact S.nd
        case r => rfl
        case l => first | exact Or.inl rfl | exact Or.inr rfl
        case s => rfl
        case f => first | exact Or.inl rfl | exact Or.inr rfl
        case e => exact (pe_fn f_rows_found (hr.mono (by first | decide | omega)) (by rfl) (pa_cons (pv 0) pa_nil se_name))
      case r1 =>
        with_reducible refine' pss_cons ?s3 ?r3
        case s3 =>
          refine' ps_frz ?z4
          case z4 =>
            refine' ps_for PassesOwn.never rfl ?i4 ?g4 ?b4 ?h4
            case h4 => intro _; rfl
            case i4 => exact (pi_dictF (pv 1))
            case g4 => exact (pg_name (i := 2) S.nd rfl (by first | exact Or.inl rfl | exact Or.inr rfl))
            case b4 =>
              with_reducible refine' pss_one ?s5
              case s5 =>
                with_reducible refine' ps_if ?c6 ?a6 ?o6
                case c6 => exact (pt_not (pt_val (pe_callB (call_all rfl) (by rfl) T.n_all PyProof.Rows.boot_all (pa_cons (pe_lc (tgs := ["name", "to"]) (cap := [("rows", 1), ("sheet", 0), ("node", 2)]) rfl ⟨rfl, rfl, rfl, rfl, rfl, rfl⟩ (pi_list (pe_ix ix_list (pe_ix ix_tup (pv 0) pe_int (fun _ _ => rfl)) (pv 2) (fun _ _ => rfl))) (fun _ _ _ _ => (pg_tupK (K := K) (n := 2) rfl rfl (pgs_cons (pg_name (i := 0) (show List.Nodup [("name" : Str), ("to" : Str), ("rows" : Str), ("sheet" : Str), ("node" : Str)] by decide +kernel) rfl (by first | exact Or.inl rfl | exact Or.inr rfl)) (pgs_cons (pg_name (i := 1) (show List.Nodup [("name" : Str), ("to" : Str), ("rows" : Str), ("sheet" : Str), ("node" : Str)] by decide +kernel) rfl (by first | exact Or.inl rfl | exact Or.inr rfl)) pgs_nil)))) (fun _ _ _ _ => pifs_nil) (fun _ _ _ _ => (pe_cmpR op_eq (pe_dget hu (pv 2) (pv 1) (fun _ _ => rfl)) (pe_fn f_row_behind (hr.mono (by first | decide | omega)) (by rfl) (pa_cons (pv 3) (pa_cons (pe_dget hu (pv 2) (pv 4) (fun _ _ => rfl)) (pa_cons (pv 0) pa_nil se_name)) se_name)) (nomark _)))) pa_nil))))
                case a6 =>
                  with_reducible refine' pss_one ?s7
                  case s7 =>
                    exact (ps_ret pe_bl)
                case o6 =>
                  exact pss_nil
        case r3 =>
          with_reducible refine' pss_one ?s9
          case s9 =>
            exact (ps_ret pe_bl)
    try dsimp only [cxOf, Cx.nox, Cx.wish]
    rw [show L2.start ["sheet", "rows", "node"] [V.ref a] = [some (.ref a), none, none] from rfl]
    have big : 1000 < sizeLine := by decide
    have ok := fr.ok
    repeat walk_at "vc"
    refine ⟨a, li, lo, ln, nas, sh, rfl, at_, ok, tb, fun R kvs H1 t1 hR hR1 rok => ?_⟩
    with_reducible refine s_name ?_
    with_reducible refine s_seq ?_
    have at1 : ShAt H1 a li lo ln nas sh := at_.mono (t1.lst tb) (t1.tup tb)
    refine s_frz (a := R) (u := .dK kvs) (.inl hR1) trivial fun ob => ?_
    have h2 : ∀ b, b ≠ R → upd H1 R (.frz ob (.dK kvs)) b = H1 b := fun b n => upd_ne n
    have hR2 : upd H1 R (.frz ob (.dK kvs)) R = some (.frz ob (.dK kvs)) := upd_same
    generalize upd H1 R (.frz ob (.dK kvs)) = H2 at *
    have l2 : ∀ b xs, H1 b = some (.lst xs) → H2 b = some (.lst xs) := fun b xs e => by rw [h2 b (fun z => by rw [z, hR1] at e; cases e)]; exact e
    have t2 : ∀ b xs, H1 b = some (.tup xs) → H2 b = some (.tup xs) := fun b xs e => by rw [h2 b (fun z => by rw [z, hR1] at e; cases e)]; exact e
    have at2 : ShAt H2 a li lo ln nas sh := at1.mono l2 t2
    -- as it was, behind the loop
    have fin : ∀ H', Same H2 H' → Tk TL H (back H1 R H') := fun H' S' => by
      have bk : ∀ {b u}, H1 b = some u → back H1 R H' b = some u := fun {b u} e => by
        by_cases c : b = R
        · subst c; rw [back_same]; exact e
        · rw [back_ne c]; exact S' b u (by rw [h2 b c]; exact e)
      refine ⟨fun b u e n => bk (t1.old b u e n), ?_⟩
      rcases t1.tab with e | ⟨c, e, q⟩
      · exact .inl (bk e)
      · exact .inr ⟨c, bk e, bk q⟩
    have dget : ∀ {H' : Hp}, Same H2 H' → ∀ {i : Nat}, sh.R i → DGet H' R (.int (i : Int)) (some (.str (rho kvs i))) ∧ StOk sh.ws.length (rho kvs i) ∧ ∀ lam, Lab sh lam → lam i = rho kvs i := fun {H'} S' {i} ri => by
      obtain ⟨y, hy, sty, ly⟩ := rok.inv.at (rok.all i ri)
      rw [rho_of hy]
      exact ⟨.inl ⟨kvs, Sum.inl (i : Int), .inr ⟨ob, S' _ _ hR2⟩, rfl, hy.symm⟩, sty, ly⟩
    refine s_for (s_dictF (i_var rfl ⟨R, ob, kvs, rfl, hR2, ?_⟩))
    refine for_dict (fun j σ' H' => ∃ x2 : Option V, σ' = [some (.ref a), some (.ref R), x2] ∧ Same H2 H' ∧ ∀ j', j' < j → ∀ i : Nat, ∀ v, kvs[j']? = some (Sum.inl (i : Int), v) → ∀ p ∈ sh.node i, rho kvs p.2 = turnT (rho kvs i) (sh.ws.idxOf p.1)) ⟨_, rfl, fun _ _ e => e, fun j' h => absurd h (Nat.not_lt_zero _)⟩ (fun j σ' H' _ pv => ?_) (fun j ky vl σ' H' hj pv => ?_) (fun σ' H' pv => ?_)
    · obtain ⟨_, _, S', _⟩ := pv
      exact S' _ _ hR2
    · obtain ⟨x2, rfl, S', hp⟩ := pv
      obtain ⟨i, y, rfl, rfl, ri, _, _⟩ := rok.inv.sound ky vl (valV_of_get rok.inv.nd hj)
      have hil := Sh.R_lt ok ri
      have at' := at2.same S'
      have ha' := at'.ha
      have hn' := at'.hn
      obtain ⟨na, hna, hst⟩ := paired_get' at'.nodes (List.getElem?_eq_getElem hil)
      have enode : sh.node i = sh.nodes[i] := Sh.node_of (List.getElem?_eq_getElem hil)
      rw [← enode] at hst
      obtain ⟨vs, hvs, prs⟩ := hst
      have lvs := steps_len prs
      have few := ok.few _ (Sh.node_mem hil)
      obtain ⟨dg, sti, li'⟩ := dget S' ri
      refine s_name ?_
      with_reducible refine s_if ?_
      with_reducible refine i_not ?_
      with_reducible refine i_tB ?_
      with_reducible refine i_cb ?_
      with_reducible refine i_cons ?_
      refine i_comp (s_list (i_op (i_op (i_var rfl (i_c (i_ixT ha' rfl (i_var rfl (i_ixL (v := .ref na) (SqL.of hn') (atI_nat (by rw [List.getElem?_map, hna]; rfl)) ⟨na, rfl, ⟨_, SqL.of hvs⟩, fun L hL => ?_⟩))))))))
      refine comp_list (xs := vs) (fun n H'' ys => Same H' H'' ∧ H'' L = some (.lst ys) ∧ ys = (((sh.node i).take n).map fun p => decide (rho kvs p.2 = turnT (rho kvs i) (sh.ws.idxOf p.1))).map V.bl) ⟨fresh_same hL, upd_same, by simp⟩ (fun n H' ys p => ⟨p.2.1, SqL.of (p.1 _ _ hvs)⟩) (fun n x H'' ys e p => ?_) (fun H3 ys p => ?_)
      · obtain ⟨Sm, hd, rfl⟩ := p
        obtain ⟨p, b, hpn, rfl, hb⟩ := steps_get prs e
        have hn : n < vs.length := (List.getElem?_eq_some_iff.mp e).1
        have hpm := List.mem_of_getElem? hpn
        have rp : sh.R p.2 := .step ri (List.mem_map.mpr ⟨p, hpm, rfl⟩)
        obtain ⟨dgp, _, _⟩ := dget (S'.trans Sm) rp
        obtain ⟨dgi, _, _⟩ := dget (S'.trans Sm) ri
        refine ⟨b, _, rfl, SqT.of (Sm _ _ hb), rfl, _, _, rfl, s_name ⟨_, _, rfl, s_name ⟨rfl, by repeat' (first | exact trivial | refine ⟨rfl, ?_⟩), i_yes (iteT ?_)⟩⟩⟩
        refine i_op (i_dget (i_var rfl (i_var rfl ⟨R, _, rfl, dgp, ?_⟩)))
        refine i_call (i_cons (i_var rfl (i_cons (i_dget (i_var rfl (i_var rfl ⟨R, _, rfl, dgi, i_cons (i_var rfl (i_nil ?_))⟩))))))
        refine ⟨a, li, lo, ln, nas, sh, rho kvs i, p.1, rfl, at'.same Sm, ok, sti, ok.names _ (Sh.node_mem hil) p hpm, fun H5 S5 => ?_⟩
        refine i_eq rfl ?_
        refine NextC.mk (S5 _ _ hd) hn (by rw [List.length_map, List.length_map, List.length_take]; omega) ⟨same_upd (Sm.trans S5) hL, upd_same, ?_⟩
        rw [List.take_succ, hpn, List.map_append, List.map_append]
        have e : decide (V.str (rho kvs p.2) = V.str (turnT (rho kvs i) (sh.ws.idxOf p.1))) = decide (rho kvs p.2 = turnT (rho kvs i) (sh.ws.idxOf p.1)) := by
          rw [Bool.eq_iff_iff, decide_eq_true_iff, decide_eq_true_iff]
          exact ⟨fun h => V.str.inj h, fun h => by rw [h]⟩
        rw [e]; rfl
      obtain ⟨Sm, hd, rfl⟩ := p
      rw [lvs, List.take_of_length_le (Nat.le_refl _)] at hd
      refine i_nil ⟨_, _, rfl, SqL.of hd, _, rfl, ?_⟩
      by_cases c : (((sh.node i).map fun p => decide (rho kvs p.2 = turnT (rho kvs i) (sh.ws.idxOf p.1))).all id) = true
      · refine ifF (by rw [c]; rfl) ?_
        with_reducible refine s_next ?_
        refine ⟨_, rfl, S'.trans Sm, fun j' h i' v e p hp' => ?_⟩
        by_cases cj : j' < j
        · exact hp j' cj i' v e p hp'
        · have : j' = j := by omega
          subst this
          rw [hj] at e
          cases e
          have := List.all_eq_true.mp c _ (List.mem_map.mpr ⟨p, hp', rfl⟩)
          exact of_decide_eq_true this
      · refine ifT (by rw [Bool.eq_false_iff.mpr c]; rfl) ?_
        repeat walk_at "vc"
        refine ⟨(S'.trans Sm) _ _ hR2, q false _ (fin _ (S'.trans Sm)) ⟨fun z => (nomatch z), fun ⟨lam, lb⟩ => absurd (List.all_eq_true.mpr fun x hx => ?_) c⟩⟩
        obtain ⟨p, hpm, rfl⟩ := List.mem_map.mp hx
        have rp : sh.R p.2 := .step ri (List.mem_map.mpr ⟨p, hpm, rfl⟩)
        obtain ⟨_, _, lp⟩ := dget S' rp
        show decide _ = true
        rw [decide_eq_true_iff, ← lp lam lb, ← li' lam lb]
        exact lb.2 i ri p hpm
    · obtain ⟨x2, rfl, S', hp⟩ := pv
      refine ⟨S' _ _ hR2, ?_⟩
      repeat walk_at "vc"
      refine q true _ (fin _ S') ⟨fun _ => ⟨rho kvs, rho_of rok.inv.zero, fun i ri p hpm => ?_⟩, fun _ => rfl⟩
      obtain ⟨y, hy, _⟩ := rok.inv.at (rok.all i ri)
      obtain ⟨j, hj⟩ : ∃ j : Nat, kvs[j]? = some (Sum.inl (i : Int), V.str y) := by
        have hm : (Sum.inl (i : Int), V.str y) ∈ kvs := by
          unfold valV at hy
          rw [Option.map_eq_some_iff] at hy
          obtain ⟨kv, h1, h2⟩ := hy
          have h3 := List.find?_some h1
          have h4 := List.mem_of_find?_eq_some h1
          have h5 : kv.1 = Sum.inl (i : Int) := of_decide_eq_true h3
          have : kv = (Sum.inl (i : Int), V.str y) := by rw [← h5, ← h2]
          rw [← this]; exact h4
        obtain ⟨j, hj, e⟩ := List.mem_iff_getElem.mp hm
        exact ⟨j, by rw [List.getElem?_eq_getElem hj, e]⟩
      exact hp j (List.getElem?_eq_some_iff.mp hj).1 i _ hj p hpm
theorem sc_is_sheet : FnScope ["thing"] ["thing"] (defScope (top 24)) := ⟨rfl, rfl, rfl, by decide +kernel, rfl, by decide +kernel, by decide +kernel⟩
theorem ok_issheet {TL : Addr} {f : Addr} {fd : FuncData} (Fu : Fun K "is_sheet" "is_sheet" (top 24) f fd) (T : Txt K mg TT) (f_has_sheet_form : Fn P w K mg base "has_sheet_form" ["thing"] 5 spForm) (f_has_one_row_each : Fn P w K mg base "has_one_row_each" ["sheet"] 4 (spIsSh TL)) : FnOk P w K mg base CX0 6 f fd ["thing"] (spIsSh TL) := by
  have S := sc_is_sheet
  refine Fu.ok S (fun vs H Q E h => ?_) (fun cdv A outer s H vs Q E hr h => ?_)
  · obtain ⟨a, li, lo, ln, nas, sh, rfl, _⟩ := h
    rfl
  · obtain ⟨a, li, lo, ln, nas, sh, rfl, at_, fr, tb, q⟩ := h
    refine ⟨_, (pss_one (ps_ret (pe_and (pe_fn f_has_sheet_form (hr.mono (by first | decide | omega)) (by rfl) (pa_cons (pv 0) pa_nil se_name)) (pe_one (pe_fn f_has_one_row_each (hr.mono (by first | decide | omega)) (by rfl) (pa_cons (pv 0) pa_nil se_name)))))), ?_⟩
    try dsimp only [cxOf, Cx.nox, Cx.wish]
    rw [show L2.start ["thing"] [V.ref a] = [some (.ref a)] from rfl]
    repeat walk_at "vc"
    refine ⟨a, li, lo, ln, nas, sh, rfl, at_, fr, fun H1 S1 => ⟨_, rfl, iteT ?_⟩⟩
    repeat walk_at "vc"
    exact ⟨a, li, lo, ln, nas, sh, rfl, at_.same S1, fr, tb_keep tb S1, fun b H2 t2 hb => q b H2 ((Tk.of tb S1).trans t2) hb⟩
end
set_option Elab.async false
set_option linter.all false
set_option maxRecDepth 100000
set_option maxHeartbeats 4000000

structure SgsOk (s : Sh) (vs : List V) : Prop where
  len : vs.length = s.nodes.length
  row : ∀ i, s.R i → ∃ y, vs[i]? = some (.str y) ∧ StOk s.ws.length y ∧ ∀ lam, Lab s lam → lam i = y
  none : ∀ i, i < s.nodes.length → ¬ s.R i → vs[i]? = some .non
noncomputable def spSigns (TL : Addr) : Sp := fun vs H Q _ => ∃ (a li lo ln : Addr) (nas : List Addr) (s : Sh), vs = [.ref a] ∧ ShAt H a li lo ln nas s ∧ ShOk s ∧ TbAt TL lmRows H ∧ ∀ (L : Addr) (us : List V) H', Tk TL H H' → H L = none → H' L = some (.lst us) → SgsOk s us → Q (.ref L) H'
section
variable {P : Program} {w : World} {K : PySem.W.Frag} {mg : Str → Option Value} {base : Heap} {TT : Addr}
theorem sc_signs_of : FnScope ["sheet", "rows"] ["sheet"] (defScope (top 25)) := ⟨rfl, rfl, rfl, by decide +kernel, rfl, by decide +kernel, by decide +kernel⟩
theorem ok_signs {TL : Addr} {f : Addr} {fd : FuncData} (Fu : Fun K "signs_of" "signs_of" (top 25) f fd) (T : Txt K mg TT) (f_rows_found : Fn P w K mg base "rows_found" ["sheet"] 3 (spRows TL)) : FnOk P w K mg base CX0 4 f fd ["sheet"] (spSigns TL) := by
  have S := sc_signs_of
  refine Fu.ok S (fun vs H Q E h => ?_) (fun cdv A outer s H vs Q E hr h => ?_)
  · obtain ⟨a, li, lo, ln, nas, sh, rfl, _⟩ := h
    rfl
  · obtain ⟨a, li, lo, ln, nas, sh, rfl, at_, ok, tb, k⟩ := h
    have hu := hu_of hr
    refine ⟨_, (pss_cons (ps_set (i := 1) S.nd rfl (by first | exact Or.inl rfl | exact Or.inr rfl) (pe_fn f_rows_found (hr.mono (by first | decide | omega)) (by rfl) (pa_cons (pv 0) pa_nil se_name)))
      (pss_one (ps_ret (pe_lc (tgs := ["node"]) (cap := [("rows", 1)]) rfl ⟨rfl, rfl, rfl, rfl, rfl, rfl⟩ (pi_range1 (by rfl) T.n_range (pa_cons (pe_callB call_len_seq (by rfl) T.n_len PySem.boot_len (pa_cons (pe_ix ix_tup (pv 0) pe_int (fun _ _ => rfl)) pa_nil)) pa_nil se_call)) (fun _ _ _ _ => (pg_name (i := 0) (show List.Nodup [("node" : Str), ("rows" : Str)] by decide +kernel) rfl (by first | exact Or.inl rfl | exact Or.inr rfl))) (fun _ _ _ _ => pifs_nil) (fun _ _ _ _ => (pe_dget1 hu (pv 1) (pv 0) ⟨rfl, rfl, rfl, rfl⟩)))))), ?_⟩
    try dsimp only [cxOf, Cx.nox, Cx.wish]
    rw [show L2.start ["sheet", "rows"] [V.ref a] = [some (.ref a), none] from rfl]
    have big : 1000 < sizeLine := by decide
    repeat walk_at "vc"
    refine ⟨a, li, lo, ln, nas, sh, rfl, at_, ok, tb, fun R kvs H1 t1 hR hR1 rok => ?_⟩
    have at1 : ShAt H1 a li lo ln nas sh := at_.mono (t1.lst tb) (t1.tup tb)
    have ha1 := at1.ha
    have lnas : nas.length = sh.nodes.length := paired_len at1.nodes
    have n100 := ok.n100
    repeat walk_at "vc"
    refine i_comp ?_
    repeat walk_at "vc"
    refine ⟨_, _, rfl, Or.inl (SqL.of at1.hn), ?_⟩
    repeat walk_at "vc"
    refine ⟨by rw [List.length_map]; omega, by rw [List.length_map]; omega, fun L hL => ?_⟩
    rw [Int.toNat_natCast, List.length_map, lnas]
    have HL : H L = none := by
      cases e : H L with
      | none => rfl
      | some o =>
        by_cases c : L = TL
        · obtain ⟨ps, e2⟩ := tb_T t1.tab
          rw [c, e2] at hL; cases hL
        · rw [t1.old _ _ e c] at hL; cases hL
    refine comp_range (n := sh.nodes.length) (fun n H' ys => Same H1 H' ∧ H' L = some (.lst ys) ∧ ys = (List.range n).map fun (i : Nat) => (valV kvs (Sum.inl (i : Int))).getD .non) ⟨fresh_same hL, upd_same, rfl⟩ (fun i H' ys pv => pv.2.1) (fun i H' ys hi pv => ?_) (fun H' ys pv => ?_)
    · obtain ⟨S2, hl, rfl⟩ := pv
      rw [Int.zero_add]
      refine s_name ⟨by repeat' (first | exact trivial | refine ⟨rfl, ?_⟩), i_yes (iteT ?_)⟩
      refine i_dget1 (i_var rfl ⟨R, rfl, .inl ⟨_, .inl (S2 _ _ hR1)⟩, i_var rfl ⟨_, DGet.k (k := Sum.inl (i : Int)) (S2 _ _ hR1), ?_⟩⟩)
      refine NextC.mk hl hi (by rw [List.length_map, List.length_range]; omega) ⟨same_upd S2 hL, upd_same, ?_⟩
      rw [List.range_succ, List.map_append]; rfl
    · obtain ⟨S2, hl, rfl⟩ := pv
      refine k L _ H' (t1.trans (Tk.of t1.tab S2)) HL hl ⟨by rw [List.length_map, List.length_range], fun i ri => ?_, fun i hi nr => ?_⟩
      · obtain ⟨y, hy, st, l⟩ := rok.inv.at (rok.all i ri)
        refine ⟨y, ?_, st, l⟩
        rw [List.getElem?_map, List.getElem?_range (Sh.R_lt ok ri)]
        show some ((valV kvs (Sum.inl (i : Int))).getD .non) = _
        rw [hy]; rfl
      · rw [List.getElem?_map, List.getElem?_range hi]
        show some ((valV kvs (Sum.inl (i : Int))).getD .non) = _
        cases e : valV kvs (Sum.inl (i : Int)) with
        | none => rfl
        | some v =>
          obtain ⟨j, y, ej, _, r, _⟩ := rok.inv.sound _ _ e
          cases ej
          exact absurd r nr
end
set_option Elab.async false
set_option linter.all false
set_option maxRecDepth 100000
set_option maxHeartbeats 4000000

noncomputable def spSheet : Sp := fun vs H Q _ => ∃ (D : Dk) (m : Nat), vs = [.ref D.d, .int (m : Int)] ∧ D.At H ∧ 1 ≤ m ∧ m ≤ 40 ∧ ∀ a li lo ln nas s H', Kp D H H' → ShAt H' a li lo ln nas s → DrawnOk s → nas.Nodup → ln ∉ nas → li ∉ nas → lo ∉ nas → H ln = none → (∀ b ∈ nas, H b = none) → Q (.ref a) H'
theorem letters_flat {T : List Nat} : ∀ (zs : List Str), (∀ z ∈ zs, ∃ c ∈ T, z = ⟨#[c]⟩) → ((zs.map (·.cps.toList)).flatten).length = zs.length ∧ (∀ c ∈ (zs.map (·.cps.toList)).flatten, c ∈ T) ∧ (zs.map (·.length)).sum = zs.length
  | [], _ => ⟨rfl, fun c h => (List.not_mem_nil h).elim, rfl⟩
  | z :: zs, h => by
    obtain ⟨c, hc, rfl⟩ := h z (by simp)
    obtain ⟨e1, e2, e3⟩ := letters_flat zs fun z hz => h z (List.mem_cons_of_mem _ hz)
    refine ⟨?_, fun d hd => ?_, ?_⟩
    · simp only [List.map_cons, List.flatten_cons, List.length_append, e1, List.length_cons]
      show (#[c] : Array Nat).toList.length + zs.length = _
      simp
      omega
    · simp only [List.map_cons, List.flatten_cons, List.mem_append] at hd
      rcases hd with hd | hd
      · have : d = c := by simpa using hd
        rw [this]; exact hc
      · exact e2 d hd
    · simp only [List.map_cons, List.sum_cons, List.length_cons, e3]
      show (#[c] : Array Nat).size + zs.length = _
      simp
      omega
theorem join_size {T : List Nat} {zs : List Str} (h : ∀ z ∈ zs, ∃ c ∈ T, z = ⟨#[c]⟩) : (Txt.join Str.empty zs).cps.size = zs.length ∧ ∀ c ∈ (Txt.join Str.empty zs).cps.toList, c ∈ T := by
  obtain ⟨e1, e2, _⟩ := letters_flat zs h
  rw [← Array.length_toList, glued_nil]
  exact ⟨e1, e2⟩
theorem pick_int {xs : List Int} {r : Int} (h0 : 0 ≤ r) (h1 : r < xs.length) : ∃ x ∈ xs, atI (xs.map V.int) r = some (.int x) := by
  have hr : r.toNat < xs.length := by omega
  refine ⟨xs[r.toNat], List.getElem_mem hr, ?_⟩
  have e : r = ((r.toNat : Nat) : Int) := by omega
  have q := atI_nat (xs := xs.map V.int) (j := r.toNat) (v := .int xs[r.toNat]) (by rw [List.getElem?_map, List.getElem?_eq_getElem hr]; rfl)
  rw [← e] at q
  exact q
section
variable {P : Program} {w : World} {K : PySem.W.Frag} {mg : Str → Option Value} {base : Heap} {TT : Addr}
theorem sc_law_sheet : FnScope ["store", "most", "ins", "outs", "names", "rows", "nodes", "k", "here", "left", "at", "fits"] ["store", "most"] (defScope (top 32)) := ⟨rfl, rfl, rfl, by decide +kernel, rfl, by decide +kernel, by decide +kernel⟩
theorem ok_sheet {f : Addr} {fd : FuncData} (Fu : Fun K "_law_sheet" "_law_sheet" (top 32) f fd) (T : Txt K mg TT) (f_law_take : Fn P w K mg base "_law_take" ["store", "many"] 1 spDraw) (f_law_some_names : Fn P w K mg base "_law_some_names" ["store", "many"] 2 spSomeN) (f_law_flip : Fn P w K mg base "_law_flip" ["signs", "at"] 1 spTurned) : FnOk P w K mg base CX0 3 f fd ["store", "most"] spSheet := by
  have S := sc_law_sheet
  refine Fu.ok S (fun vs H Q E h => ?_) (fun cdv A outer s H vs Q E hr h => ?_)
  · obtain ⟨D, m, rfl, _⟩ := h
    rfl
  · obtain ⟨D, m, rfl, DA, m1, m40, k⟩ := h
    refine' ⟨?_, ?bb, ?_⟩
    case bb =>
      refine' pss_cons ?s1 ?r1
      case s1 =>
        refine' ps_set (i := 2) ?n ?r ?l ?e ?s ?f
        case n => exact S.nd
        case r => rfl
        case l => first | exact Or.inl rfl | exact Or.inr rfl
        case s => rfl
        case f => first | exact Or.inl rfl | exact Or.inr rfl
        case e => exact (pe_fn f_law_take (hr.mono (by first | decide | omega)) (by rfl) (pa_cons (pv 0) (pa_cons pe_int pa_nil se_con) se_name))
      case r1 =>
        with_reducible refine' pss_cons ?s3 ?r3
        case s3 =>
          refine' ps_set (i := 3) ?n ?r ?l ?e ?s ?f
          case n => exact S.nd
          case r => rfl
          case l => first | exact Or.inl rfl | exact Or.inr rfl
          case s => rfl
          case f => first | exact Or.inl rfl | exact Or.inr rfl
          case e =>
            exact (pe_op op_add pe_int (pe_fn f_law_take (hr.mono (by first | decide | omega)) (by rfl) (pa_cons (pv 0) (pa_cons (pe_ix ix_list (pe_lst (pa_cons pe_int (pa_cons pe_int (pa_cons pe_int (pa_cons pe_int pa_nil se_con) se_con) se_con) se_con)) (pe_fn f_law_take (hr.mono (by first | decide | omega)) (by rfl) (pa_cons (pv 0) (pa_cons pe_int pa_nil se_con) se_name)) (fun _ _ => rfl)) pa_nil) se_name)))
        case r3 =>
          with_reducible refine' pss_cons ?s6 ?r6
          case s6 =>
            refine' ps_set (i := 4) ?n ?r ?l ?e ?s ?f
            case n => exact S.nd
            case r => rfl
            case l => first | exact Or.inl rfl | exact Or.inr rfl
            case s => rfl
            case f => first | exact Or.inl rfl | exact Or.inr rfl
            case e => exact (pe_fn f_law_some_names (hr.mono (by first | decide | omega)) (by rfl) (pa_cons (pv 0) (pa_cons (pe_op op_add (pv 2) (pv 3)) pa_nil) se_name))
          case r6 =>
            with_reducible refine' pss_cons ?s8 ?r8
            case s8 =>
              refine' ps_set (i := 5) ?n ?r ?l ?e ?s ?f
              case n => exact S.nd
              case r => rfl
              case l => first | exact Or.inl rfl | exact Or.inr rfl
              case s => rfl
              case f => first | exact Or.inl rfl | exact Or.inr rfl
              case e => exact (pe_lst (pa_cons (pe_bm PySem.F.plainAttrs_str PySem.F.slot_str_join PySem.F.type_str_join mt_join pe_str (pa_cons (pe_lc (tgs := ["name"]) (cap := [("store", 0)]) rfl ⟨rfl, rfl, rfl, rfl, rfl, rfl⟩ (pi_list (pv 4)) (fun _ _ _ _ => (pg_name (i := 0) (show List.Nodup [("name" : Str), ("store" : Str)] by decide +kernel) rfl (by first | exact Or.inl rfl | exact Or.inr rfl))) (fun _ _ _ _ => pifs_nil) (fun _ _ _ _ => (pe_ix ix_str pe_str (pe_fn f_law_take (hr.mono (by first | decide | omega)) (by rfl) (pa_cons (pv 1) (pa_cons pe_int pa_nil se_con) se_name)) (fun _ _ => rfl)))) pa_nil)) pa_nil se_call))
            case r8 =>
              with_reducible refine' pss_cons ?s10 ?r10
              case s10 =>
                refine' ps_set (i := 6) ?n ?r ?l ?e ?s ?f
                case n => exact S.nd
                case r => rfl
                case l => first | exact Or.inl rfl | exact Or.inr rfl
                case s => rfl
                case f => first | exact Or.inl rfl | exact Or.inr rfl
                case e =>
                  with_reducible refine' pe_lst ?a12
                  case a12 =>
                    with_reducible refine' pa_cons ?e13 ?s13 se_lst
                    case e13 =>
                      with_reducible refine' pe_lst ?a14
                      case a14 =>
                        exact pa_nil
                    case s13 =>
                      exact pa_nil
              case r10 =>
                with_reducible refine' pss_cons ?s15 ?r15
                case s15 =>
                  refine' ps_for PassesOwn.never rfl ?i16 ?g16 ?b16 ?h16
                  case h16 => intro _; rfl
                  case i16 => exact (pi_range1 (by rfl) T.n_range (pa_cons (pe_fn f_law_take (hr.mono (by first | decide | omega)) (by rfl) (pa_cons (pv 0) (pa_cons (pv 1) pa_nil se_name) se_name)) pa_nil se_call))
                  case g16 => exact (pg_name (i := 7) S.nd rfl (by first | exact Or.inl rfl | exact Or.inr rfl))
                  case b16 =>
                    with_reducible refine' pss_cons ?s17 ?r17
                    case s17 =>
                      refine' ps_set (i := 8) ?n ?r ?l ?e ?s ?f
                      case n => exact S.nd
                      case r => rfl
                      case l => first | exact Or.inl rfl | exact Or.inr rfl
                      case s => rfl
                      case f => first | exact Or.inl rfl | exact Or.inr rfl
                      case e => exact (pe_fn f_law_take (hr.mono (by first | decide | omega)) (by rfl) (pa_cons (pv 0) (pa_cons (pe_callB call_len_seq (by rfl) T.n_len PySem.boot_len (pa_cons (pv 6) pa_nil se_name)) pa_nil se_call) se_name))
                    case r17 =>
                      with_reducible refine' pss_cons ?s19 ?r19
                      case s19 =>
                        exact (ps_lc (j := 9) S.nd rfl (by first | exact Or.inl rfl | exact Or.inr rfl) (tgs := ["at"]) (cap := [("names", 4), ("nodes", 6), ("here", 8)]) rfl ⟨rfl, rfl, rfl, rfl, rfl, rfl⟩ (pi_range1 (by rfl) T.n_range (pa_cons (pe_callB call_len_seq (by rfl) T.n_len PySem.boot_len (pa_cons (pv 4) pa_nil se_name)) pa_nil se_call)) (fun _ _ _ _ => (pg_name (i := 0) (show List.Nodup [("at" : Str), ("names" : Str), ("nodes" : Str), ("here" : Str)] by decide +kernel) rfl (by first | exact Or.inl rfl | exact Or.inr rfl))) (fun _ _ _ _ => (pifs_one (pt_cmpR (op_notIn_seqK (K := K) rfl) (pe_ix (ix_listK (K := K) rfl) (pv 1) (pv 0) (fun _ _ => rfl)) (pe_lc (tgs := ["name", "to"]) (cap := []) rfl ⟨rfl, rfl, rfl, rfl, rfl, rfl⟩ (pi_listK (K := K) rfl (pe_ix (ix_listK (K := K) rfl) (pv 2) (pv 3) (fun _ _ => rfl))) (fun _ _ _ _ => (pg_tupK (K := K) (n := 2) rfl rfl (pgs_cons (pg_name (i := 0) (show List.Nodup [("name" : Str), ("to" : Str)] by decide +kernel) rfl (by first | exact Or.inl rfl | exact Or.inr rfl)) (pgs_cons (pg_name (i := 1) (show List.Nodup [("name" : Str), ("to" : Str)] by decide +kernel) rfl (by first | exact Or.inl rfl | exact Or.inr rfl)) pgs_nil)))) (fun _ _ _ _ => pifs_nil) (fun _ _ _ _ => (pv 0))) rfl))) (fun _ _ _ _ => (pv 0)))
                      case r19 =>
                        with_reducible refine' pss_one ?s21
                        case s21 =>
                          with_reducible refine' ps_if ?c22 ?a22 ?o22
                          case c22 => exact (pt_cmpR (op_neL hr.units) (pv 9) (pe_lst pa_nil) (nomark _))
                          case a22 =>
                            with_reducible refine' pss_cons ?s23 ?r23
                            case s23 =>
                              refine' ps_set (i := 10) ?n ?r ?l ?e ?s ?f
                              case n => exact S.nd
                              case r => rfl
                              case l => first | exact Or.inl rfl | exact Or.inr rfl
                              case s => rfl
                              case f => first | exact Or.inl rfl | exact Or.inr rfl
                              case e => exact (pe_ix ix_list (pv 9) (pe_fn f_law_take (hr.mono (by first | decide | omega)) (by rfl) (pa_cons (pv 0) (pa_cons (pe_callB call_len_seq (by rfl) T.n_len PySem.boot_len (pa_cons (pv 9) pa_nil se_name)) pa_nil se_call) se_name)) (fun _ _ => rfl))
                            case r23 =>
                              with_reducible refine' pss_cons ?s25 ?r25
                              case s25 =>
                                refine' ps_expr ?e
                                case e =>
                                  refine' pe_bm PySem.F.plainAttrs_list PySem.F.slot_list_append PySem.F.type_list_append mt_append (pe_ix ix_list (pv 6) (pv 8) (fun _ _ => rfl)) ?a
                                  case a =>
                                    with_reducible refine' pa_cons ?e27 ?s27 se_tup
                                    case e27 =>
                                      with_reducible refine' pe_tup ?a28
                                      case a28 =>
                                        with_reducible refine' pa_cons ?e29 ?s29 se_sub
                                        case e29 =>
                                          with_reducible refine' pe_ix ?r30 ?v30 ?b30 ?p30
                                          case r30 => exact ix_list
                                          case p30 => exact (fun _ _ => rfl)
                                          case v30 =>
                                            exact (pv 4)
                                          case b30 =>
                                            exact (pv 10)
                                        case s29 =>
                                          with_reducible refine' pa_cons ?e33 ?s33 se_call
                                          case e33 =>
                                            exact (pe_callB call_len_seq (by rfl) T.n_len PySem.boot_len (pa_cons (pv 6) pa_nil se_name))
                                          case s33 =>
                                            exact pa_nil
                                    case s27 =>
                                      exact pa_nil
                              case r25 =>
                                with_reducible refine' pss_cons ?s35 ?r35
                                case s35 =>
                                  exact (ps_expr (pe_bm PySem.F.plainAttrs_list PySem.F.slot_list_append PySem.F.type_list_append mt_append (pv 5) (pa_cons (pe_fn f_law_flip (hr.mono (by first | decide | omega)) (by rfl) (pa_cons (pe_ix ix_list (pv 5) (pv 8) (fun _ _ => rfl)) (pa_cons (pv 10) pa_nil se_name))) pa_nil se_call)))
                                case r35 =>
                                  with_reducible refine' pss_one ?s37
                                  case s37 =>
                                    refine' ps_expr ?e
                                    case e =>
                                      refine' pe_bm PySem.F.plainAttrs_list PySem.F.slot_list_append PySem.F.type_list_append mt_append (pv 6) ?a
                                      case a =>
                                        with_reducible refine' pa_cons ?e39 ?s39 se_lst
                                        case e39 =>
                                          with_reducible refine' pe_lst ?a40
                                          case a40 =>
                                            exact pa_nil
                                        case s39 =>
                                          exact pa_nil
                          case o22 =>
                            exact pss_nil
                case r15 =>
                  with_reducible refine' pss_cons ?s41 ?r41
                  case s41 =>
                    refine' ps_for PassesOwn.never rfl ?i42 ?g42 ?b42 ?h42
                    case h42 => intro _; rfl
                    case i42 => exact (pi_range1 (by rfl) T.n_range (pa_cons (pe_fn f_law_take (hr.mono (by first | decide | omega)) (by rfl) (pa_cons (pv 0) (pa_cons (pe_op op_mul pe_int (pv 1)) pa_nil) se_name)) pa_nil se_call))
                    case g42 => exact (pg_name (i := 7) S.nd rfl (by first | exact Or.inl rfl | exact Or.inr rfl))
                    case b42 =>
                      with_reducible refine' pss_cons ?s43 ?r43
                      case s43 =>
                        refine' ps_set (i := 8) ?n ?r ?l ?e ?s ?f
                        case n => exact S.nd
                        case r => rfl
                        case l => first | exact Or.inl rfl | exact Or.inr rfl
                        case s => rfl
                        case f => first | exact Or.inl rfl | exact Or.inr rfl
                        case e => exact (pe_fn f_law_take (hr.mono (by first | decide | omega)) (by rfl) (pa_cons (pv 0) (pa_cons (pe_callB call_len_seq (by rfl) T.n_len PySem.boot_len (pa_cons (pv 6) pa_nil se_name)) pa_nil se_call) se_name))
                      case r43 =>
                        with_reducible refine' pss_cons ?s45 ?r45
                        case s45 =>
                          refine' ps_set (i := 10) ?n ?r ?l ?e ?s ?f
                          case n => exact S.nd
                          case r => rfl
                          case l => first | exact Or.inl rfl | exact Or.inr rfl
                          case s => rfl
                          case f => first | exact Or.inl rfl | exact Or.inr rfl
                          case e => exact (pe_fn f_law_take (hr.mono (by first | decide | omega)) (by rfl) (pa_cons (pv 0) (pa_cons (pe_callB call_len_seq (by rfl) T.n_len PySem.boot_len (pa_cons (pv 4) pa_nil se_name)) pa_nil se_call) se_name))
                        case r45 =>
                          with_reducible refine' pss_cons ?s47 ?r47
                          case s47 =>
                            exact (ps_lc (j := 11) S.nd rfl (by first | exact Or.inl rfl | exact Or.inr rfl) (tgs := ["to"]) (cap := [("rows", 5), ("at", 10), ("here", 8)]) rfl ⟨rfl, rfl, rfl, rfl, rfl, rfl⟩ (pi_range1 (by rfl) T.n_range (pa_cons (pe_callB call_len_seq (by rfl) T.n_len PySem.boot_len (pa_cons (pv 6) pa_nil se_name)) pa_nil se_call)) (fun _ _ _ _ => (pg_name (i := 0) (show List.Nodup [("to" : Str), ("rows" : Str), ("at" : Str), ("here" : Str)] by decide +kernel) rfl (by first | exact Or.inl rfl | exact Or.inr rfl))) (fun _ _ _ _ => (pifs_one (pt_cmpR op_eq (pe_ix (ix_listK (K := K) rfl) (pv 1) (pv 0) (fun _ _ => rfl)) (pe_fn f_law_flip (hr.mono (by first | decide | omega)) (by rfl) (pa_cons (pe_ix (ix_listK (K := K) rfl) (pv 1) (pv 3) (fun _ _ => rfl)) (pa_cons (pv 2) pa_nil se_name))) (nomark _)))) (fun _ _ _ _ => (pv 0)))
                          case r47 =>
                            with_reducible refine' pss_one ?s49
                            case s49 =>
                              with_reducible refine' ps_if ?c50 ?a50 ?o50
                              case c50 => exact (PW.pt (pw_and (pt_cmpR (op_neL hr.units) (pv 11) (pe_lst pa_nil) (nomark _)) (pw_and1 (pt_cmpR op_notIn_seq (pe_ix ix_list (pv 4) (pv 10) (fun _ _ => rfl)) (pe_lc (tgs := ["name", "to"]) (cap := []) rfl ⟨rfl, rfl, rfl, rfl, rfl, rfl⟩ (pi_list (pe_ix ix_list (pv 6) (pv 8) (fun _ _ => rfl))) (fun _ _ _ _ => (pg_tupK (K := K) (n := 2) rfl rfl (pgs_cons (pg_name (i := 0) (show List.Nodup [("name" : Str), ("to" : Str)] by decide +kernel) rfl (by first | exact Or.inl rfl | exact Or.inr rfl)) (pgs_cons (pg_name (i := 1) (show List.Nodup [("name" : Str), ("to" : Str)] by decide +kernel) rfl (by first | exact Or.inl rfl | exact Or.inr rfl)) pgs_nil)))) (fun _ _ _ _ => pifs_nil) (fun _ _ _ _ => (pv 0))) rfl))))
                              case a50 =>
                                with_reducible refine' pss_one ?s51
                                case s51 =>
                                  refine' ps_expr ?e
                                  case e =>
                                    refine' pe_bm PySem.F.plainAttrs_list PySem.F.slot_list_append PySem.F.type_list_append mt_append (pe_ix ix_list (pv 6) (pv 8) (fun _ _ => rfl)) ?a
                                    case a =>
                                      with_reducible refine' pa_cons ?e53 ?s53 se_tup
                                      case e53 =>
                                        with_reducible refine' pe_tup ?a54
                                        case a54 =>
                                          with_reducible refine' pa_cons ?e55 ?s55 se_sub
                                          case e55 =>
                                            with_reducible refine' pe_ix ?r56 ?v56 ?b56 ?p56
                                            case r56 => exact ix_list
                                            case p56 => exact (fun _ _ => rfl)
                                            case v56 =>
                                              exact (pv 4)
                                            case b56 =>
                                              exact (pv 10)
                                          case s55 =>
                                            with_reducible refine' pa_cons ?e59 ?s59 se_sub
                                            case e59 =>
                                              with_reducible refine' pe_ix ?r60 ?v60 ?b60 ?p60
                                              case r60 => exact ix_list
                                              case p60 => exact (fun _ _ => rfl)
                                              case v60 =>
                                                exact (pv 11)
                                              case b60 =>
                                                refine' pe_fn f_law_take (hr.mono (by first | decide | omega)) (by rfl) ?a62
                                                case a62 =>
                                                  with_reducible refine' pa_cons ?e63 ?s63 se_name
                                                  case e63 =>
                                                    exact (pv 0)
                                                  case s63 =>
                                                    with_reducible refine' pa_cons ?e65 ?s65 se_call
                                                    case e65 =>
                                                      exact (pe_callB call_len_seq (by rfl) T.n_len PySem.boot_len (pa_cons (pv 11) pa_nil se_name))
                                                    case s65 =>
                                                      exact pa_nil
                                            case s59 =>
                                              exact pa_nil
                                      case s53 =>
                                        exact pa_nil
                              case o50 =>
                                exact pss_nil
                  case r41 =>
                    with_reducible refine' pss_cons ?s67 ?r67
                    case s67 =>
                      refine' ps_for PassesOwn.never rfl ?i68 ?g68 ?b68 ?h68
                      case h68 => intro _; rfl
                      case i68 => exact (pi_range1 (by rfl) T.n_range (pa_cons (pe_op op_mul (pe_ix ix_list (pe_lst (pa_cons pe_int (pa_cons pe_int (pa_cons pe_int (pa_cons pe_int pa_nil se_con) se_con) se_con) se_con)) (pe_fn f_law_take (hr.mono (by first | decide | omega)) (by rfl) (pa_cons (pv 0) (pa_cons pe_int pa_nil se_con) se_name)) (fun _ _ => rfl)) (pe_callTy call_int1 (by rfl) T.n_int PyProof.Rows.boot_int (pa_cons (pe_cmpR op_lt (pe_callB call_len_seq (by rfl) T.n_len PySem.boot_len (pa_cons (pv 6) pa_nil se_name)) pe_int (nomark _)) pa_nil))) pa_nil))
                      case g68 => exact (pg_name (i := 7) S.nd rfl (by first | exact Or.inl rfl | exact Or.inr rfl))
                      case b68 =>
                        with_reducible refine' pss_one ?s69
                        case s69 =>
                          refine' ps_expr ?e
                          case e =>
                            refine' pe_bm PySem.F.plainAttrs_list PySem.F.slot_list_append PySem.F.type_list_append mt_append (pv 6) ?a
                            case a =>
                              with_reducible refine' pa_cons ?e71 ?s71 se_lst
                              case e71 =>
                                with_reducible refine' pe_lst ?a72
                                case a72 =>
                                  with_reducible refine' pa_cons ?e73 ?s73 se_tup
                                  case e73 =>
                                    with_reducible refine' pe_tup ?a74
                                    case a74 =>
                                      with_reducible refine' pa_cons ?e75 ?s75 se_sub
                                      case e75 =>
                                        with_reducible refine' pe_ix ?r76 ?v76 ?b76 ?p76
                                        case r76 => exact ix_list
                                        case p76 => exact (fun _ _ => rfl)
                                        case v76 =>
                                          exact (pv 4)
                                        case b76 =>
                                          refine' pe_fn f_law_take (hr.mono (by first | decide | omega)) (by rfl) ?a78
                                          case a78 =>
                                            with_reducible refine' pa_cons ?e79 ?s79 se_name
                                            case e79 =>
                                              exact (pv 0)
                                            case s79 =>
                                              with_reducible refine' pa_cons ?e81 ?s81 se_call
                                              case e81 =>
                                                exact (pe_callB call_len_seq (by rfl) T.n_len PySem.boot_len (pa_cons (pv 4) pa_nil se_name))
                                              case s81 =>
                                                exact pa_nil
                                      case s75 =>
                                        with_reducible refine' pa_cons ?e83 ?s83 se_call
                                        case e83 =>
                                          refine' pe_fn f_law_take (hr.mono (by first | decide | omega)) (by rfl) ?a84
                                          case a84 =>
                                            with_reducible refine' pa_cons ?e85 ?s85 se_name
                                            case e85 =>
                                              exact (pv 0)
                                            case s85 =>
                                              with_reducible refine' pa_cons ?e87 ?s87 se_bin
                                              case e87 =>
                                                exact (pe_op op_add (pe_callB call_len_seq (by rfl) T.n_len PySem.boot_len (pa_cons (pv 6) pa_nil se_name)) pe_int)
                                              case s87 =>
                                                exact pa_nil
                                        case s83 =>
                                          exact pa_nil
                                  case s73 =>
                                    exact pa_nil
                              case s71 =>
                                exact pa_nil
                    case r67 =>
                      with_reducible refine' pss_one ?s89
                      case s89 =>
                        with_reducible refine' ps_ret ?e
                        case e =>
                          with_reducible refine' pe_tup ?a91
                          case a91 =>
                            with_reducible refine' pa_cons ?e92 ?s92 se_sub
                            case e92 =>
                              exact (pe_slice sl_list (pv 4) po_none (po_some (pv 2)))
                            case s92 =>
                              with_reducible refine' pa_cons ?e94 ?s94 se_sub
                              case e94 =>
                                exact (pe_slice sl_list (pv 4) (po_some (pv 2)) po_none)
                              case s94 =>
                                with_reducible refine' pa_cons ?e96 ?s96 se_sub
                                case e96 =>
                                  with_reducible refine' pe_ix ?r97 ?v97 ?b97 ?p97
                                  case r97 => exact ix_list
                                  case p97 => exact (fun _ _ => rfl)
                                  case v97 =>
                                    exact (pv 5)
                                  case b97 =>
                                    exact pe_int
                                case s96 =>
                                  with_reducible refine' pa_cons ?e100 ?s100 se_name
                                  case e100 =>
                                    exact (pv 6)
                                  case s100 =>
                                    exact pa_nil
    try dsimp only [cxOf, Cx.nox, Cx.wish]
    rw [show L2.start ["store", "most", "ins", "outs", "names", "rows", "nodes", "k", "here", "left", "at", "fits"] [V.ref D.d, V.int (m : Int)] = [some (.ref D.d), some (.int (m : Int)), none, none, none, none, none, none, none, none, none, none] from rfl]
    have big : 10000 < sizeLine := by decide
    repeat walk_at "vc"
    refine ⟨D, 5, rfl, DA, by decide, by decide, fun ri H1 i0 i5 k1 => ?_⟩
    obtain ⟨ni, rfl⟩ := Int.eq_ofNat_of_zero_le i0
    repeat walk_at "vc"
    refine ⟨by simp [sizeLine], fun p hp => ?_⟩
    generalize hE : upd H1 p _ = H2
    obtain ⟨S2, q2⟩ := upd_pair hp hE
    clear hE
    have k2 := k1.trans (Kp.of k1.dk S2)
    repeat walk_at "vc"
    refine ⟨D, 4, rfl, k2.dk, by decide, by decide, fun r3 H3 a3 b3 k3 => ?_⟩
    have q3 : H3 p = some (.lst ([3, 3, 3, 7].map V.int)) := k3.old p _ q2 (notOwn_fresh k1.dk hp)
    obtain ⟨x, hx, ex⟩ := pick_int (xs := [3, 3, 3, 7]) a3 b3
    have hx7 : 1 ≤ x ∧ x ≤ 7 := by
      simp only [List.mem_cons, List.not_mem_nil, or_false] at hx
      omega
    refine i_ixL (SqL.of q3) ex ?_
    repeat walk_at "vc"
    refine ⟨D, x, rfl, k3.dk, by omega, by omega, fun ro H4 o0 o7 k4 => ?_⟩
    obtain ⟨no, rfl⟩ := Int.eq_ofNat_of_zero_le o0
    have k04 := k2.trans (k3.trans k4)
    repeat walk_at "vc"
    have en : (ni : Int) + (1 + (no : Int)) = ((ni + (1 + no) : Nat) : Int) := by omega
    rw [en]
    refine ⟨D, ni + (1 + no), rfl, k04.dk, by omega, by omega, fun Lm ws H5 lw hLm hm5 k5 wnd wsub => ?_⟩
    have k05 := k04.trans k5
    have Lm0 : H Lm = none := k04.free hLm
    repeat walk_at "vc"
    refine ⟨i_tyS, ?_⟩
    repeat walk_at "vc"
    refine i_comp (s_list (i_var rfl ⟨Lm, rfl, ⟨_, SqL.of hm5⟩, fun L hL => ?_⟩))
    have HL : H L = none := k05.free hL
    have DA5 := k05.dk
    have LmL : Lm ≠ L := ne_of_none hm5 hL
    refine comp_list (xs := ws.map V.str) (fun n H' ys => Kp D H5 H' ∧ H' L = some (.lst ys) ∧ ∃ zs : List Str, ys = zs.map V.str ∧ zs.length = n ∧ ∀ z ∈ zs, ∃ c ∈ [48, 49], z = ⟨#[c]⟩) ⟨Kp.fresh DA5 hL (Kp.of DA5 (Same.refl _)), upd_same, [], rfl, rfl, fun z h => nomatch h⟩ (fun i H ys p => ⟨p.2.1, SqL.of (p.1.strs DA5 hm5)⟩) (fun i x H' ys hx p => ?_) (fun H6 ys p => ?_)
    · obtain ⟨kp, hl, zs, rfl, hz, hc⟩ := p
      refine s_name ⟨by repeat' (first | exact trivial | refine ⟨rfl, ?_⟩), i_yes (iteT ?_)⟩
      refine i_op (i_c (i_call (i_cons (i_var rfl (i_cons (i_c (i_nil ?_)))))))
      refine ⟨D, 2, rfl, kp.dk, by decide, by decide, fun r H'' r0 r2 k2 => ?_⟩
      have hi : i < (ws.map V.str).length := (List.getElem?_eq_some_iff.mp hx).1
      obtain ⟨c, hc', ec⟩ : ∃ c : Nat, c ∈ [48, 49] ∧ atI ("01" : Str).cps.toList r = some c := by
        have hr : r = 0 ∨ r = 1 := by omega
        rcases hr with e | e
        · subst e; exact ⟨48, by simp, by decide +kernel⟩
        · subst e; exact ⟨49, by simp, by decide +kernel⟩
      refine ⟨"01", r, c, rfl, rfl, by decide, ec, ?_⟩
      refine NextC.mk (k2.strs kp.dk hl) hi (by rw [List.length_map]; rw [List.length_map] at hi; omega) ⟨Kp.fresh DA5 hL (kp.trans k2), upd_same, zs ++ [⟨#[c]⟩], by simp, by simp [hz], fun z hz' => ?_⟩
      rcases List.mem_append.mp hz' with h | h
      · exact hc z h
      · rw [List.mem_singleton] at h
        exact ⟨c, hc', h⟩
    obtain ⟨k6, hl6, zs, rfl, hz, hc⟩ := p
    rw [List.length_map] at hz
    obtain ⟨js, jc⟩ := join_size hc
    obtain ⟨_, _, jl⟩ := letters_flat zs hc
    have k06 := k05.trans k6
    refine i_nil (i_join hl6 (by rw [jl, show (Str.ofString "").length = 0 from by decide]; omega) ?_)
    have st0 : StOk ws.length (Txt.join "" zs) := ⟨by rw [← hz]; exact js, fun c hc' => by
      have := jc c hc'
      simpa using this⟩
    generalize Txt.join "" zs = z0 at *
    repeat walk_at "vc"
    refine ⟨by simp [sizeLine], fun Lr hLr => ?_⟩
    generalize hE : upd H6 Lr _ = H7
    obtain ⟨S7, hr7⟩ := upd_pair hLr hE
    clear hE
    have k07 := k06.trans (Kp.of k06.dk S7)
    have Lr0 : H Lr = none := k06.free hLr
    have hm7 : H7 Lm = some (.lst (ws.map V.str)) := S7 _ _ (k6.strs DA5 hm5)
    repeat walk_at "vc"
    refine ⟨by simp [sizeLine], fun N0 hN0 => ?_⟩
    generalize hE : upd H7 N0 _ = H8
    obtain ⟨S8, hn8⟩ := upd_pair hN0 hE
    clear hE
    have k08 := k07.trans (Kp.of k07.dk S8)
    have N00 : H N0 = none := k07.free hN0
    repeat walk_at "vc"
    refine ⟨by simp [sizeLine], fun Lq hLq => ?_⟩
    generalize hE : upd H8 Lq _ = H9
    obtain ⟨S9, hq9⟩ := upd_pair hLq hE
    clear hE
    have k09 := k08.trans (Kp.of k08.dk S9)
    have Lq0 : H Lq = none := k08.free hLq
    have bld : Bld D H Lm Lr Lq ws [z0] [N0] [[]] H9 := by
      have e1 : Lm ≠ Lr := ne_of_none (k6.strs DA5 hm5) hLr
      have e2 : Lm ≠ N0 := ne_of_none hm7 hN0
      have e3 : Lr ≠ N0 := ne_of_none hr7 hN0
      have e4 : Lm ≠ Lq := ne_of_none (S8 _ _ hm7) hLq
      have e5 : Lr ≠ Lq := ne_of_none (S8 _ _ hr7) hLq
      have e6 : N0 ≠ Lq := ne_of_none hn8 hLq
      refine ⟨k09, Lm0, Lr0, Lq0, fun b hb => by rw [List.mem_singleton] at hb; subst hb; exact N00, S9 _ _ (S8 _ _ hm7), S9 _ _ (S8 _ _ hr7), hq9, ?_, .cons ⟨[], S9 _ _ hn8, .nil⟩ .nil⟩
      simp only [List.nodup_cons, List.mem_cons, List.not_mem_nil, or_false, not_or]
      exact ⟨⟨e1, e4, e2⟩, ⟨e5, e3⟩, e6.symm, not_false, List.nodup_nil⟩
    have gr0 : ∀ i p, p ∈ ([[]] : List (List (Str × Nat))).getD i [] → False := fun i p hp => by
      cases i with
      | zero => nomatch hp
      | succ i =>
        rw [getD_out (by simp)] at hp
        nomatch hp
    have gr : Gr ws [z0] [[]] := ⟨rfl, by simp, fun y hy => by rw [List.mem_singleton] at hy; subst hy; exact st0, fun i p hp => (gr0 i p hp).elim, fun node hn => by rw [List.mem_singleton] at hn; subst hn; exact List.nodup_nil⟩
    clear hm5 hm7 hr7 hn8 hq9 S7 S8 S9 hl6
    have lws : 1 ≤ ws.length ∧ ws.length ≤ 11 := by omega
    -- the first loop
    repeat walk_at "vc"
    refine ⟨D, m, rfl, bld.kp.dk, by omega, by omega, fun r1 Ha r10 r1m ka => ?_⟩
    obtain ⟨c1, rfl⟩ := Int.eq_ofNat_of_zero_le r10
    have bld := bld.draw ka
    repeat walk_at "vc"
    refine ⟨by omega, by omega, ?_⟩
    rw [Int.toNat_natCast]
    refine for_range (fun i σ' H' => ∃ (rows : List Str) (nas : List Addr) (nodes : List (List (Str × Nat))) (x7 x8 x9 x10 x11 : Option V), σ' = [some (.ref D.d), some (.int (m : Int)), some (.int (ni : Int)), some (.int (1 + (no : Int))), some (.ref Lm), some (.ref Lr), some (.ref Lq), x7, x8, x9, x10, x11] ∧ Bld D H Lm Lr Lq ws rows nas nodes H' ∧ Gr ws rows nodes ∧ nodes.length ≤ i + 1) ⟨_, _, _, _, _, _, _, _, rfl, bld, gr, by simp⟩ (fun i σ' H' hi pv => ?_) (fun σ' H' pv => ?_)
    · obtain ⟨rows, nas, nodes, x7, x8, x9, x10, x11, rfl, b, g, ln⟩ := pv
      refine s_name ?_
      have lnas := b.lenN
      have np := g.pos
      have hq := b.hq
      repeat walk_at "vc"
      rw [List.length_map]
      refine ⟨D, _, rfl, b.kp.dk, by omega, by omega, fun r2 Hb r20 r2m kb => ?_⟩
      obtain ⟨here, rfl⟩ := Int.eq_ofNat_of_zero_le r20
      have b := b.draw kb
      have hhere : here < nodes.length := by omega
      obtain ⟨na, hna, hst⟩ := b.at hhere
      have hm := b.hm
      repeat walk_at "vc"
      refine i_comp ?_
      repeat walk_at "vc"
      refine ⟨by rw [List.length_map]; omega, by rw [List.length_map]; omega, fun L hL => ?_⟩
      rw [Int.toNat_natCast, List.length_map]
      refine comp_rangeF (n := ws.length) (fun i H' ys => Same Hb H' ∧ H' L = some (.lst ys) ∧ ∃ ks : List Nat, ys = intsN ks ∧ ks.length ≤ i ∧ ∀ k ∈ ks, ∃ hk : k < ws.length, ws[k] ∉ (nodes.getD here []).map (·.1)) ⟨fresh_same hL, upd_same, [], rfl, Nat.le_refl _, fun k h => nomatch h⟩ (fun i H' ys pv => pv.2.1) (fun i' H' ys hi' pv => ?_) (fun Hc ys pv => ?_)
      · obtain ⟨Sc, hl, ks, rfl, lk, hks⟩ := pv
        rw [Int.zero_add]
        refine s_name ⟨by repeat' (first | exact trivial | refine ⟨rfl, ?_⟩), ?_⟩
        refine i_newName (k := i') (h := here) (nm := ws[i']) rfl rfl (Sc _ _ hm) (List.getElem?_eq_getElem hi') rfl rfl (Sc _ _ b.hq) hna (hst.same Sc) (by have := g.few here; omega) fun H'' S'' => ?_
        have hl' := S'' _ _ hl
        by_cases c : ws[i'] ∈ (nodes.getD here []).map (·.1)
        · refine ifF (by rw [decide_eq_true c]; rfl) ?_
          exact ⟨_, by omega, rfl, hi', Sc.trans S'', hl', ks, rfl, by omega, hks⟩
        · refine ifT (by rw [decide_eq_false c]; rfl) ?_
          refine i_var rfl (NextC.mk hl' hi' (by unfold intsN; rw [List.length_map]; omega) ⟨same_upd (Sc.trans S'') hL, upd_same, ks ++ [i'], by unfold intsN; rw [List.map_append]; rfl, by rw [List.length_append]; simp; omega, fun k hk => ?_⟩)
          rcases List.mem_append.mp hk with h | h
          · exact hks k h
          · rw [List.mem_singleton] at h; subst h; exact ⟨hi', c⟩
      obtain ⟨Sc, hlc, ks, rfl, lk, hks⟩ := pv
      have b := b.same Sc
      have nL : ¬ D.own L := notOwn_fresh kb.dk hL
      have hst := hst.same Sc
      with_reducible refine s_name ?_
      with_reducible refine s_if ?_
      refine i_neNil (by rfl) hlc fun Hd Sd => ?_
      have b := b.same Sd
      have hst := hst.same Sd
      have hld := Sd _ _ hlc
      have lik : (intsN ks).length = ks.length := List.length_map ..
      by_cases c0 : ks.length = 0
      · refine ifF (by rw [lik, decide_eq_true c0]; rfl) ?_
        repeat walk_at "vc"
        exact ⟨rows, nas, nodes, _, _, _, _, _, rfl, b, g, by omega⟩
      refine ifT (by rw [lik, decide_eq_false c0]; rfl) ?_
      repeat walk_at "vc"
      refine ⟨D, _, rfl, b.kp.dk, by rw [lik]; omega, by rw [lik]; omega, fun r3 He r30 r3m ke => ?_⟩
      rw [lik] at r3m
      have hle : He L = some (.lst (intsN ks)) := ke.old _ _ hld nL
      have hst := hst.kp b.kp.dk ke
      have b := b.draw ke
      obtain ⟨kk, hkk, ekk⟩ := pick_nat r30 r3m
      obtain ⟨hkw, hnew⟩ := hks kk hkk
      refine i_ixL (SqL.of hle) ekk ?_
      with_reducible refine s_name ?_
      with_reducible refine s_seq ?_
      obtain ⟨vs, hv, pr⟩ := id hst
      have lvs : vs.length = (nodes.getD here []).length := by have := paired_len pr; unfold nodeV at this; rwa [List.length_map] at this
      have gf := g.few here
      have hm := b.hm
      have hq := b.hq
      refine s_drop (i_bm (i_op (i_var rfl (i_var rfl (i_ixL (v := .ref na) (SqL.of hq) (atI_nat (by rw [List.getElem?_map, hna]; rfl)) ⟨i_tyL hv, ?_⟩)))))
      refine i_cons (i_tup (i_cons (i_op (i_var rfl (i_var rfl (i_ixL (v := .str ws[kk]) (SqL.of hm) (atI_nat (by rw [List.getElem?_map, List.getElem?_eq_getElem hkw]; rfl)) ?_))))))
      refine i_cons (i_cb (i_cons (i_var rfl (i_nil ⟨Lq, _, rfl, .inl (SqL.of hq), ?_⟩))))
      refine i_nil ⟨by simp [sizeLine], fun t ht => ?_⟩
      generalize hE : upd He t _ = Hf
      obtain ⟨Sf, htf⟩ := upd_pair ht hE
      clear hE
      rw [List.length_map, b.lenN] at htf
      have b1 := b.same Sf
      refine i_nil (i_app (Sf _ _ hv) (by omega) ?_)
      have b2 := b1.addTurn DA hna (Sf _ _ hv) htf
      generalize upd Hf na _ = Hg at b2
      have hr2 := b2.hr
      with_reducible refine s_seq ?_
      refine s_drop (i_bm (i_var rfl ⟨i_tyL hr2, i_cons (i_call (i_cons (i_op (i_var rfl (i_var rfl (i_ixL (v := .str (rows.getD here "")) (SqL.of hr2) (atI_nat (by rw [List.getElem?_map, g.row hhere]; rfl)) (i_cons (i_var rfl (i_nil ?_)))))))))⟩))
      refine ⟨_, ws.length, kk, rfl, g.rok _ (List.mem_of_getElem? (g.row hhere)), hkw, by omega, ?_⟩
      refine i_nil (i_app hr2 (by rw [List.length_map]; have := g.len; omega) ?_)
      have b3 := b2.addRow DA (turnT (rows.getD here "") kk)
      generalize upd Hg Lr _ = Hh at b3
      have hq3 := b3.hq
      refine s_drop (i_bm (i_var rfl ⟨i_tyL hq3, i_cons (i_lst (i_nil ⟨by simp [sizeLine], fun p hp => ?_⟩))⟩))
      generalize hE : upd Hh p _ = Hi
      obtain ⟨Si, hpi⟩ := upd_pair hp hE
      clear hE
      have b4 := b3.same Si
      refine i_nil (i_app b4.hq (by rw [List.length_map]; omega) ?_)
      have b5 := b4.addNode DA (p := p) (node := []) (b3.kp.free hp) (b3.new hp) ⟨[], hpi, .nil⟩
      exact ⟨_, _, _, _, _, _, _, _, rfl, b5, g.grow wnd hhere hkw hnew, by rw [List.length_append, List.length_set]; simp; omega⟩
    clear bld gr
    obtain ⟨rows, nas, nodes, x7, x8, x9, x10, x11, rfl, b, g, ln⟩ := pv
    -- the second loop
    with_reducible refine s_seq ?_
    repeat walk_at "vc"
    refine ⟨D, _, rfl, b.kp.dk, by omega, by omega, fun r1 Hb r10 r1m kb => ?_⟩
    obtain ⟨c2, rfl⟩ := Int.eq_ofNat_of_zero_le r10
    have b := b.draw kb
    repeat walk_at "vc"
    refine ⟨by omega, by omega, ?_⟩
    rw [Int.toNat_natCast]
    refine for_range (fun i σ' H' => ∃ (nodes' : List (List (Str × Nat))) (x7 x8 x9 x10 x11 : Option V), σ' = [some (.ref D.d), some (.int (m : Int)), some (.int (ni : Int)), some (.int (1 + (no : Int))), some (.ref Lm), some (.ref Lr), some (.ref Lq), x7, x8, x9, x10, x11] ∧ Bld D H Lm Lr Lq ws rows nas nodes' H' ∧ Gr ws rows nodes' ∧ nodes'.length = nodes.length) ⟨_, _, _, _, _, _, rfl, b, g, rfl⟩ (fun i σ' H' hi pv => ?_) (fun σ' H' pv => ?_)
    · clear b g
      obtain ⟨nodes', y7, y8, y9, y10, y11, rfl, b, g, ln'⟩ := pv
      refine s_name ?_
      have lnas := b.lenN
      have np := g.pos
      have hq := b.hq
      repeat walk_at "vc"
      rw [List.length_map]
      refine ⟨D, _, rfl, b.kp.dk, by omega, by omega, fun r2 Hc r20 r2m kc => ?_⟩
      obtain ⟨here, rfl⟩ := Int.eq_ofNat_of_zero_le r20
      have b := b.draw kc
      have hhere : here < nodes'.length := by omega
      have hm := b.hm
      repeat walk_at "vc"
      rw [List.length_map]
      refine ⟨D, _, rfl, b.kp.dk, by omega, by omega, fun r3 Hd r30 r3m kd => ?_⟩
      obtain ⟨kk, rfl⟩ := Int.eq_ofNat_of_zero_le r30
      have hkw : kk < ws.length := by omega
      have b := b.draw kd
      obtain ⟨na, hna, hst⟩ := b.at hhere
      have hq := b.hq
      have hrr := b.hr
      repeat walk_at "vc"
      refine i_comp ?_
      repeat walk_at "vc"
      refine ⟨by rw [List.length_map]; omega, by rw [List.length_map]; omega, fun L hL => ?_⟩
      rw [Int.toNat_natCast, List.length_map, lnas]
      have stH := g.rok _ (List.mem_of_getElem? (g.row hhere))
      refine comp_rangeF (n := nodes'.length) (fun i H' ys => Same Hd H' ∧ H' L = some (.lst ys) ∧ ∃ ks : List Nat, ys = intsN ks ∧ ks.length ≤ i ∧ ∀ k ∈ ks, k < nodes'.length ∧ rows.getD k "" = turnT (rows.getD here "") kk) ⟨fresh_same hL, upd_same, [], rfl, Nat.le_refl _, fun k h => nomatch h⟩ (fun i H' ys pv => pv.2.1) (fun i' H' ys hi' pv => ?_) (fun He ys pv => ?_)
      · obtain ⟨Sc, hl, ks, rfl, lk, hks⟩ := pv
        rw [Int.zero_add]
        refine s_name ⟨by repeat' (first | exact trivial | refine ⟨rfl, ?_⟩), ?_⟩
        have hr' := Sc _ _ hrr
        refine i_test (i_op (i_op (i_var rfl (i_var rfl (i_ixL (v := .str (rows.getD i' "")) (SqL.of hr') (atI_nat (by rw [List.getElem?_map, g.row hi']; rfl)) ?_)))))
        refine i_call (i_cons (i_op (i_var rfl (i_var rfl (i_ixL (v := .str (rows.getD here "")) (SqL.of hr') (atI_nat (by rw [List.getElem?_map, g.row hhere]; rfl)) (i_cons (i_var rfl (i_nil ?_))))))))
        refine ⟨_, ws.length, kk, rfl, stH, hkw, by omega, i_eq rfl ⟨_, rfl, ?_⟩⟩
        by_cases c : rows.getD i' "" = turnT (rows.getD here "") kk
        · refine ifT (decide_eq_true (by rw [c])) ?_
          refine i_var rfl (NextC.mk hl hi' (by unfold intsN; rw [List.length_map]; omega) ⟨same_upd Sc hL, upd_same, ks ++ [i'], by unfold intsN; rw [List.map_append]; rfl, by rw [List.length_append]; simp; omega, fun k hk => ?_⟩)
          rcases List.mem_append.mp hk with h | h
          · exact hks k h
          · rw [List.mem_singleton] at h; subst h; exact ⟨hi', c⟩
        · refine ifF (decide_eq_false (fun z => c (V.str.inj z))) ?_
          exact ⟨_, by omega, rfl, hi', Sc, hl, ks, rfl, by omega, hks⟩
      obtain ⟨Sc, hlc, ks, rfl, lk, hks⟩ := pv
      have b := b.same Sc
      have nL : ¬ D.own L := notOwn_fresh kd.dk hL
      have hst := hst.same Sc
      have gf := g.few here
      with_reducible refine s_name ?_
      with_reducible refine s_if ?_
      with_reducible refine i_and ?_
      refine i_neNil (by rfl) hlc fun Hf Sf => ?_
      have b := b.same Sf
      have hst := hst.same Sf
      have hlf := Sf _ _ hlc
      have lik : (intsN ks).length = ks.length := List.length_map ..
      by_cases c0 : ks.length = 0
      · refine ifF (by rw [lik, decide_eq_true c0]; rfl) (iteF ?_)
        repeat walk_at "vc"
        exact ⟨_, _, _, _, _, _, rfl, b, g, ln'⟩
      refine ifT (by rw [lik, decide_eq_false c0]; rfl) ?_
      refine i_newName (k := kk) (h := here) (nm := ws[kk]) (by rfl) (by rfl) b.hm (List.getElem?_eq_getElem hkw) (by rfl) (by rfl) b.hq hna hst (by omega) fun Hg Sg => ?_
      have b := b.same Sg
      have hst := hst.same Sg
      have hlg := Sg _ _ hlf
      by_cases c : ws[kk] ∈ (nodes'.getD here []).map (·.1)
      · refine ifF (by rw [decide_eq_true c]; rfl) ?_
        repeat walk_at "vc"
        exact ⟨_, _, _, _, _, _, rfl, b, g, ln'⟩
      refine ifT (by rw [decide_eq_false c]; rfl) ?_
      obtain ⟨vs, hv, pr⟩ := id hst
      have lvs : vs.length = (nodes'.getD here []).length := by have := paired_len pr; unfold nodeV at this; rwa [List.length_map] at this
      have hq := b.hq
      have hm := b.hm
      refine s_drop (i_bm (i_op (i_var rfl (i_var rfl (i_ixL (v := .ref na) (SqL.of hq) (atI_nat (by rw [List.getElem?_map, hna]; rfl)) ⟨i_tyL hv, ?_⟩)))))
      refine i_cons (i_tup (i_cons (i_op (i_var rfl (i_var rfl (i_ixL (v := .str ws[kk]) (SqL.of hm) (atI_nat (by rw [List.getElem?_map, List.getElem?_eq_getElem hkw]; rfl)) ?_))))))
      refine i_cons (i_op (i_var rfl (i_call (i_cons (i_var rfl (i_cons (i_cb (i_cons (i_var rfl (i_nil ⟨L, _, rfl, .inl (SqL.of hlg), i_nil ?_⟩))))))))))
      refine ⟨D, _, rfl, b.kp.dk, by rw [lik]; omega, by rw [lik]; omega, fun r4 Hh r40 r4m kh => ?_⟩
      rw [lik] at r4m
      have hlh : Hh L = some (.lst (intsN ks)) := kh.old _ _ hlg nL
      have hvh : Hh na = some (.lst vs) := kh.refs b.kp.dk hv (steps_refs pr)
      have b := b.draw kh
      obtain ⟨to, hto, eto⟩ := pick_nat r40 r4m
      obtain ⟨hto1, hto2⟩ := hks to hto
      refine i_ixL (SqL.of hlh) eto ?_
      refine i_nil ⟨by simp [sizeLine], fun t ht => ?_⟩
      generalize hE : upd Hh t _ = Hi
      obtain ⟨Si, hti⟩ := upd_pair ht hE
      clear hE
      refine i_nil (i_app (Si _ _ hvh) (by omega) ?_)
      have b2 := (b.same Si).addTurn DA hna (Si _ _ hvh) hti
      exact ⟨_, _, _, _, _, _, rfl, b2, g.turn wnd hhere hkw hto1 hto2 c, by rw [List.length_set]; exact ln'⟩
    clear b g
    obtain ⟨nodes', y7, y8, y9, y10, y11, rfl, b, g, ln'⟩ := pv
    have nl : nodes'.length ≤ 40 := by omega
    -- the third loop
    with_reducible refine s_seq ?_
    repeat walk_at "vc"
    refine ⟨by simp [sizeLine], fun q hq => ?_⟩
    generalize hE : upd _ q _ = Hc
    obtain ⟨Sc, hqc⟩ := upd_pair hq hE
    clear hE
    have nq : ¬ D.own q := notOwn_fresh b.kp.dk hq
    have b := b.same Sc
    repeat walk_at "vc"
    refine ⟨D, 4, rfl, b.kp.dk, by decide, by decide, fun r4 Hd r40 r4m kd => ?_⟩
    have hqd : Hd q = some (.lst ([0, 0, 1, 2].map V.int)) := kd.old _ _ hqc nq
    have b := b.draw kd
    obtain ⟨c3, hc3, ec3⟩ := pick_int (xs := [0, 0, 1, 2]) r40 r4m
    have c3b : 0 ≤ c3 ∧ c3 ≤ 2 := by
      simp only [List.mem_cons, List.not_mem_nil, or_false] at hc3
      omega
    refine i_ixL (SqL.of hqd) ec3 ?_
    have hqq := b.hq
    repeat walk_at "vc"
    rw [List.length_map, b.lenN]
    obtain ⟨c4, ec4, c4b⟩ : ∃ c4 : Nat, c3 * (if decide ((nodes'.length : Int) < 38) = true then 1 else 0) = (c4 : Int) ∧ nodes'.length + c4 ≤ 40 := by
      by_cases c : (nodes'.length : Int) < 38
      · rw [if_pos (decide_eq_true c)]
        exact ⟨c3.toNat, by omega, by omega⟩
      · rw [if_neg (by rw [decide_eq_false c]; exact Bool.false_ne_true)]
        exact ⟨0, by omega, by omega⟩
    rw [ec4]
    refine ⟨by omega, by omega, ?_⟩
    rw [Int.toNat_natCast]
    refine for_range (fun i σ' H' => ∃ (nas' : List Addr) (ex : List (List (Str × Nat))) (x7 x8 x9 x10 x11 : Option V), σ' = [some (.ref D.d), some (.int (m : Int)), some (.int (ni : Int)), some (.int (1 + (no : Int))), some (.ref Lm), some (.ref Lr), some (.ref Lq), x7, x8, x9, x10, x11] ∧ Bld D H Lm Lr Lq ws rows nas' (nodes' ++ ex) H' ∧ ex.length = i ∧ ∀ node ∈ ex, ∃ nm to, node = [(nm, to)] ∧ nm ∈ ws ∧ to < nodes'.length + ex.length) ⟨_, [], _, _, _, _, _, rfl, by rw [List.append_nil]; exact b, rfl, fun node h => nomatch h⟩ (fun i σ' H' hi pv => ?_) (fun σ' H' pv => ?_)
    · clear b
      obtain ⟨nas', ex, z7, z8, z9, z10, z11, rfl, b, lex, hex⟩ := pv
      have lnas := b.lenN
      rw [List.length_append] at lnas
      have hm := b.hm
      have hq' := b.hq
      refine s_name ?_
      refine s_drop (i_bm (i_var rfl ⟨i_tyL hq', ?_⟩))
      repeat walk_at "vc"
      rw [List.length_map]
      refine ⟨D, _, rfl, b.kp.dk, by omega, by omega, fun r5 He r50 r5m ke => ?_⟩
      obtain ⟨kk, rfl⟩ := Int.eq_ofNat_of_zero_le r50
      have hkw : kk < ws.length := by omega
      have b := b.draw ke
      have hme := b.hm
      have hqe := b.hq
      refine i_ixL (v := .str ws[kk]) (SqL.of hme) (atI_nat (by rw [List.getElem?_map, List.getElem?_eq_getElem hkw]; rfl)) ?_
      repeat walk_at "vc"
      rw [List.length_map]
      refine ⟨D, _, rfl, b.kp.dk, by omega, by omega, fun r6 Hf r60 r6m kf => ?_⟩
      obtain ⟨to, rfl⟩ := Int.eq_ofNat_of_zero_le r60
      have b := b.draw kf
      repeat walk_at "vc"
      refine ⟨by simp [sizeLine], fun t ht => ?_⟩
      generalize hE : upd Hf t _ = Hg
      obtain ⟨Sg, htg⟩ := upd_pair ht hE
      clear hE
      have b := b.same Sg
      repeat walk_at "vc"
      refine ⟨by simp [sizeLine], fun p hp => ?_⟩
      generalize hE : upd Hg p _ = Hh
      obtain ⟨Sh', hph⟩ := upd_pair hp hE
      clear hE
      have bh := b.same Sh'
      repeat walk_at "vc"
      refine i_app bh.hq (by rw [List.length_map]; omega) ?_
      have b5 := bh.addNode DA (p := p) (node := [(ws[kk], to)]) (b.kp.free hp) (b.new hp) ⟨_, hph, .cons ⟨t, rfl, Sh' _ _ htg⟩ .nil⟩
      refine ⟨_, ex ++ [[(ws[kk], to)]], _, _, _, _, _, rfl, by rw [← List.append_assoc]; exact b5, by rw [List.length_append, lex]; rfl, fun node hn => ?_⟩
      rw [List.length_append]
      rcases List.mem_append.mp hn with h | h
      · obtain ⟨nm, to', e1, e2, e3⟩ := hex node h
        exact ⟨nm, to', e1, e2, by omega⟩
      · rw [List.mem_singleton] at h
        exact ⟨_, _, h, List.getElem_mem hkw, by simp; omega⟩
    clear b
    obtain ⟨nas', ex, z7, z8, z9, z10, z11, rfl, b, lex, hex⟩ := pv
    have hm := b.hm
    have hrr := b.hr
    have nd := b.neR
    repeat walk_at "vc"
    refine i_slL (SqL.of hm) fun li hli => ?_
    generalize hE : upd _ li _ = Hd
    obtain ⟨Sd, hlid⟩ := upd_pair hli hE
    clear hE
    have lin := b.new hli
    have lis : ni ≤ (ws.map V.str).length := by rw [List.length_map]; omega
    rw [cut_to lis, ← List.map_take] at hlid
    have b := b.same Sd
    have hm := b.hm
    repeat walk_at "vc"
    refine i_slL (SqL.of hm) fun lo hlo => ?_
    generalize hE : upd _ lo _ = He
    obtain ⟨Se, hloe⟩ := upd_pair hlo hE
    clear hE
    have lon := b.new hlo
    rw [cut_from lis, ← List.map_drop] at hloe
    have b := b.same Se
    have hrr := b.hr
    repeat walk_at "vc"
    refine i_ixL (v := .str (rows.getD 0 "")) (SqL.of hrr) (atI_nat (j := 0) (by rw [List.getElem?_map, g.row g.pos]; rfl)) ?_
    repeat walk_at "vc"
    refine ⟨by simp [sizeLine], fun a ha => ?_⟩
    generalize hE : upd He a _ = Hz
    obtain ⟨Sz, haz⟩ := upd_pair ha hE
    clear hE
    have b := b.same Sz
    exact k a li lo Lq nas' ⟨ws.take ni, ws.drop ni, rows.getD 0 "", nodes' ++ ex⟩ Hz b.kp ⟨haz, Sz _ _ (Se _ _ hlid), Sz _ _ hloe, b.hq, b.nod⟩ (g.drawn wnd (by omega) (by omega) (by omega) wsub (by omega) hex) nd.2.2.2.2.2.2 nd.2.2.2.2.2.1 (fun h => lin (by simp [h])) (fun h => lon (by simp [h])) b.q0 b.f0
end
set_option Elab.async false
set_option linter.all false
set_option maxRecDepth 100000
set_option maxHeartbeats 4000000

structure WI (s : Sh) (us : List V) (ls : List Nat) : Prop where
  len : us.length = s.nodes.length
  nd : ls.Nodup
  row : ∀ i ∈ ls, ∃ y, us[i]? = some (.str y) ∧ StOk s.ws.length y ∧ ∀ lam, Lab s lam → lam i = y
  non : ∀ i, i < s.nodes.length → i ∉ ls → us[i]? = some .non
  reach : ∀ i ∈ ls, s.R i
  zero : 0 ∈ ls
  z0 : us[0]? = some (.str s.z)
noncomputable def Fits (s : Sh) (us : List V) (i : Nat) (ps : List (Str × Nat)) : Prop := ∀ p ∈ ps, ∃ y y', us[i]? = some (.str y) ∧ us[p.2]? = some (.str y') ∧ y' = turnT y (s.ws.idxOf p.1)
theorem WI.few {s : Sh} {us : List V} {ls : List Nat} (ok : ShOk s) (w : WI s us ls) : ls.length ≤ s.nodes.length := by
  have := Bf.pigeon ls (List.range s.nodes.length) w.nd fun x hx => List.mem_range.mpr (Sh.R_lt ok (w.reach x hx))
  rwa [List.length_range] at this
theorem WI.first {s : Sh} (ok : ShOk s) : WI s ((List.replicate s.nodes.length V.non).set 0 (.str s.z)) [0] := by
  have n1 := ok.n1
  have e0 : ((List.replicate s.nodes.length V.non).set 0 (.str s.z))[0]? = some (.str s.z) := List.getElem?_set_self (by rw [List.length_replicate]; omega)
  refine ⟨by rw [List.length_set, List.length_replicate], by simp, fun i hi => ?_, fun i hi hn => ?_, fun i hi => ?_, by simp, e0⟩
  · rw [List.mem_singleton] at hi
    subst hi
    exact ⟨s.z, e0, ok.st, fun lam l => l.1⟩
  · rw [List.mem_singleton] at hn
    rw [List.getElem?_set_ne (fun z => hn z.symm), List.getElem?_replicate, if_pos hi]
  · rw [List.mem_singleton] at hi
    subst hi
    exact .start
noncomputable def labOf (us : List V) (i : Nat) : Str := match us[i]? with
  | some (.str y) => y
  | _ => ""
theorem labOf_str {us : List V} {i : Nat} {y : Str} (h : us[i]? = some (.str y)) : labOf us i = y := by unfold labOf; rw [h]
theorem WI.done {s : Sh} {us : List V} {ls : List Nat} (ok : ShOk s) (w : WI s us ls) (h : ∀ i ∈ ls, Fits s us i (s.node i)) : SgsOk s us ∧ Lab s (labOf us) := by
  have all : ∀ i, s.R i → i ∈ ls := fun i r => by
    induction r with
    | start => exact w.zero
    | @step a b ra hb ih =>
      obtain ⟨p, hp, rfl⟩ := List.mem_map.mp hb
      obtain ⟨y, y', _, e2, _⟩ := h a ih p hp
      have hto := ok.tos _ (Sh.node_mem (Sh.R_lt ok ra)) p hp
      by_cases c : p.2 ∈ ls
      · exact c
      · rw [w.non _ hto c] at e2; cases e2
  refine ⟨⟨w.len, fun i r => w.row i (all i r), fun i hi nr => w.non i hi fun hm => nr (w.reach i hm)⟩, labOf_str w.z0, fun i r p hp => ?_⟩
  obtain ⟨y, y', e1, e2, e3⟩ := h i (all i r) p hp
  rw [labOf_str e1, labOf_str e2, e3]
theorem paired_of {α β : Type} {F : α → β → Prop} : ∀ {xs : List α} {ys : List β}, xs.length = ys.length → (∀ (i : Nat) x y, xs[i]? = some x → ys[i]? = some y → F x y) → Paired F xs ys
  | [], [], _, _ => .nil
  | [], _ :: _, h, _ => by simp at h
  | _ :: _, [], h, _ => by simp at h
  | x :: xs, y :: ys, h, f => .cons (f 0 x y rfl rfl) (paired_of (by simpa using h) fun i a b e1 e2 => f (i + 1) a b (by simpa using e1) (by simpa using e2))
section
variable {P : Program} {w : World} {K : PySem.W.Frag} {mg : Str → Option Value} {base : Heap} {TT : Addr}
end
set_option Elab.async false
set_option linter.all false
set_option maxRecDepth 100000
set_option maxHeartbeats 4000000

section
variable {P : Program} {w : World} {K : PySem.W.Frag} {mg : Str → Option Value} {base : Heap} {TT : Addr}
theorem ShAt.kp {D : Dk} {H H' : Hp} {a li lo ln : Addr} {nas : List Addr} {s : Sh} (DA : D.At H) (k : Kp D H H') (h : ShAt H a li lo ln nas s) : ShAt H' a li lo ln nas s :=
  ⟨k.tups DA _ _ h.ha, k.strs DA h.hi, k.strs DA h.ho, k.refs DA h.hn (refs_map _), paired_mono (fun _ _ st => st.kp DA k) h.nodes⟩
end
set_option Elab.async false
set_option linter.all false
set_option maxRecDepth 100000
set_option maxHeartbeats 4000000

noncomputable def spLaw (K : PySem.W.Frag) (TL : Addr) : Sp := fun vs H Q _ => ∃ (a : Addr) (ns : List Int), vs = [.ref a] ∧ SqL K H a (ns.map V.int) ∧ ns.length ≤ 63 ∧ TbAt TL lmRows H ∧ ∀ H', Q (.bl true) H'
structure Ky (T : Addr) (D : Dk) (H H' : Hp) : Prop where
  old : ∀ b o, H b = some o → b ≠ T → ¬ D.own b → H' b = some o
  tab : TbAt T lmRows H'
  dk : D.At H'
section
variable {T : Addr} {D : Dk} {H H1 H2 : Hp}
theorem Ky.of_kp (tb : TbAt T lmRows H) (DA : D.At H) (k : Kp D H H1) : Ky T D H H1 := by
  refine ⟨fun b o e _ n => k.old b o e n, ?_, k.dk⟩
  rcases tb with e | ⟨c, e, q⟩
  · exact .inl (k.old _ _ e (notOwn DA e (fun _ z => nomatch z)))
  · exact .inr ⟨c, k.old _ _ e (notOwn DA e (fun _ z => nomatch z)), k.old _ _ q (notOwn DA q (fun _ z => nomatch z))⟩
theorem Ky.of_same (tb : TbAt T lmRows H) (DA : D.At H) (S : Same H H1) : Ky T D H H1 := Ky.of_kp tb DA (Kp.of DA S)
theorem Dk.At.tk (tb : TbAt T lmRows H) (DA : D.At H) (t : Tk T H H1) : D.At H1 := by
  obtain ⟨a, b, c, e⟩ := DA
  exact ⟨a, b, c, t.lst tb _ _ e⟩
theorem Ky.of_tk (tb : TbAt T lmRows H) (DA : D.At H) (t : Tk T H H1) : Ky T D H H1 := ⟨fun b o e n _ => t.old b o e n, t.tab, DA.tk tb t⟩
theorem Ky.trans (a : Ky T D H H1) (b : Ky T D H1 H2) : Ky T D H H2 := ⟨fun c o e n m => b.old c o (a.old c o e n m) n m, b.tab, b.dk⟩
theorem Ky.write (a : Ky T D H H1) {L : Addr} {xs : List V} {o : HO} (hL : H1 L = some (.lst xs)) (h0 : H L = none) (no : ¬ D.own L) : Ky T D H (upd H1 L o) := by
  refine ⟨fun b u e n m => by rw [upd_ne (ne_of_none e h0)]; exact a.old b u e n m, ?_, ?_⟩
  · rcases a.tab with e | ⟨c, e, q⟩
    · exact .inl (by rw [upd_ne (fun z => by rw [z, hL] at e; cases e)]; exact e)
    · exact .inr ⟨c, by rw [upd_ne (fun z => by rw [z, hL] at e; cases e)]; exact e, by rw [upd_ne (fun z => by rw [z, hL] at q; cases q)]; exact q⟩
  · obtain ⟨x, y, z, e⟩ := a.dk
    exact ⟨x, y, z, by rw [upd_ne (fun q : D.d = L => no q.symm)]; exact e⟩
theorem ShAt.ky {a li lo ln : Addr} {nas : List Addr} {s : Sh} (tb : TbAt T lmRows H) (DA : D.At H) (k : Ky T D H H1) (h : ShAt H a li lo ln nas s) : ShAt H1 a li lo ln nas s := by
  have rl : ∀ {b xs}, H b = some (.lst xs) → (∀ i : Int, V.int i ∉ xs) → H1 b = some (.lst xs) := fun {b xs} e ni => k.old b _ e (tb_ne tb e fun _ z => nomatch z) (notOwn DA e (fun ys q => by cases q; exact ni))
  have rt : ∀ {b xs}, H b = some (.tup xs) → H1 b = some (.tup xs) := fun {b xs} e => k.old b _ e (tb_ne tb e fun _ z => nomatch z) (notOwn DA e (fun ys q => nomatch q))
  exact ⟨rt h.ha, rl h.hi (noint_strs _), rl h.ho (noint_strs _), rl h.hn (noint_refs (refs_map _)), paired_mono (fun na node ⟨vs, h1, h2⟩ => ⟨vs, rl h1 (noint_refs (steps_refs h2)), paired_mono (fun v st ⟨b, e, q⟩ => ⟨b, e, rt q⟩) h2⟩) h.nodes⟩
end
theorem sql_keep {K : PySem.W.Frag} {H H' : Hp} {a T : Addr} {l : Lm} {xs : List V} (tb : TbAt T l H) (h : SqL K H a xs) (k : ∀ o, H a = some o → a ≠ T → H' a = some o) : SqL K H' a xs := by
  rcases h with h | h
  · left
    rcases h with e | ⟨o, e⟩
    · exact .inl (k _ e (tb_ne tb e fun _ z => nomatch z))
    · exact .inr ⟨o, k _ e (tb_ne tb e fun _ z => nomatch z)⟩
  · exact .inr h
theorem SgsOk.eq {s : Sh} {us vs : List V} (ok : ShOk s) (h1 : SgsOk s us) (h2 : SgsOk s vs) {lam : Nat → Str} (lb : Lab s lam) : us = vs := by
  refine List.ext_getElem? fun i => ?_
  by_cases hi : i < s.nodes.length
  · by_cases r : s.R i
    · obtain ⟨y, e, _, l⟩ := h1.row i r
      obtain ⟨y', e', _, l'⟩ := h2.row i r
      rw [e, e', ← l lam lb, ← l' lam lb]
    · rw [h1.none i hi r, h2.none i hi r]
  · rw [List.getElem?_eq_none (by rw [h1.len]; omega), List.getElem?_eq_none (by rw [h2.len]; omega)]
theorem SgsOk.each {s : Sh} {us : List V} (h : SgsOk s us) {i : Nat} {x : V} (e : us[i]? = some x) : x = .non ∨ ∃ y, x = .str y := by
  have hi : i < s.nodes.length := by rw [← h.len]; exact (List.getElem?_eq_some_iff.mp e).1
  by_cases r : s.R i
  · obtain ⟨y, e', _⟩ := h.row i r
    rw [e] at e'
    cases e'
    exact .inr ⟨y, rfl⟩
  · rw [h.none i hi r] at e
    cases e
    exact .inl rfl
theorem SgsOk.flat {s : Sh} {us : List V} (h : SgsOk s us) : us.all flatV = true := by
  rw [List.all_eq_true]
  intro x hx
  obtain ⟨i, hi, e⟩ := List.mem_iff_getElem.mp hx
  rcases h.each (i := i) (x := x) (by rw [List.getElem?_eq_getElem hi, e]) with rfl | ⟨y, rfl⟩ <;> rfl
set_option Elab.async false
set_option linter.all false
set_option maxRecDepth 100000
set_option maxHeartbeats 4000000

structure KpN (D : Dk) (nas : List Addr) (H H' : Hp) : Prop where
  old : ∀ b o, H b = some o → ¬ D.own b → b ∉ nas → H' b = some o
  dk : D.At H'
noncomputable def sameNames (nodes nodes' : List (List (Str × Nat))) : Prop := nodes'.length = nodes.length ∧ ∀ i, (nodes'.getD i []).map (·.1) = (nodes.getD i []).map (·.1)
theorem KpN.of {D : Dk} {nas : List Addr} {H H' : Hp} (k : Kp D H H') : KpN D nas H H' := ⟨fun b o e n _ => k.old b o e n, k.dk⟩
theorem names_set {node : List (Str × Nat)} {i : Nat} {p : Str × Nat} {to : Nat} (h : node[i]? = some p) : (node.set i (p.1, to)).map (·.1) = node.map (·.1) := by
  rw [List.map_set]
  refine List.ext_getElem? fun j => ?_
  by_cases c : i = j
  · subst c
    rw [List.getElem?_set_self (by rw [List.length_map]; exact (List.getElem?_eq_some_iff.mp h).1), List.getElem?_map, h]; rfl
  · rw [List.getElem?_set_ne c]
theorem frm_led {s : Sh} {nodes' : List (List (Str × Nat))} (fr : Frm s) (sn : sameNames s.nodes nodes') (tos : ∀ node ∈ nodes', ∀ p ∈ node, p.2 < s.nodes.length) : Frm { s with nodes := nodes' } := by
  have ok := fr.ok
  have mem : ∀ node ∈ nodes', ∃ node0 ∈ s.nodes, node.map (·.1) = node0.map (·.1) := fun node hn => by
    obtain ⟨j, hj, e⟩ := List.mem_iff_getElem.mp hn
    have e1 : nodes'.getD j [] = node := by rw [List.getD_eq_getElem?_getD, List.getElem?_eq_getElem hj, e]; rfl
    have h2 := sn.2 j
    rw [e1] at h2
    exact ⟨_, getD_mem (by rw [← sn.1]; exact hj), h2⟩
  have names : ∀ node ∈ nodes', ∀ p ∈ node, p.1 ∈ s.ws := fun node hn p hp => by
    obtain ⟨node0, h0, e⟩ := mem node hn
    have : p.1 ∈ node.map (·.1) := List.mem_map.mpr ⟨p, hp, rfl⟩
    rw [e] at this
    obtain ⟨p0, hp0, e0⟩ := List.mem_map.mp this
    rw [← e0]; exact ok.names _ h0 p0 hp0
  refine ⟨⟨ok.nd, ok.w1, ok.w11, ok.st, by show 1 ≤ nodes'.length; rw [sn.1]; exact ok.n1, by show nodes'.length ≤ 100; rw [sn.1]; exact ok.n100, names, fun node hn p hp => by show p.2 < nodes'.length; rw [sn.1]; exact tos node hn p hp, fun node hn => ?_⟩, by show nodes'.length ≤ 40; rw [sn.1]; exact fr.n40, fr.i4, fr.o1, fr.o7, fr.low, fun node hn => ?_⟩
  · obtain ⟨node0, h0, e⟩ := mem node hn
    have := congrArg List.length e
    rw [List.length_map, List.length_map] at this
    rw [this]; exact ok.few _ h0
  · obtain ⟨node0, h0, e⟩ := mem node hn
    show (node.map (·.1)).Nodup
    rw [e]; exact fr.ndn _ h0
theorem low_of {z : Str} (h : (decide (1 ≤ z.length) && decide (z.length ≤ 8) && z.cps.toList.all (fun c => decide (97 ≤ c) && decide (c ≤ 122))) = true) : Low z := by
  simp only [Bool.and_eq_true, decide_eq_true_eq, List.all_eq_true] at h
  exact ⟨h.1.1, h.1.2, h.2⟩
noncomputable def lowB (z : Str) : Bool := decide (1 ≤ z.length) && decide (z.length ≤ 8) && z.cps.toList.all (fun c => decide (97 ≤ c) && decide (c ≤ 122))
theorem lows_of {zs : List Str} (h : zs.all lowB = true) : ∀ z ∈ zs, Low z := fun z hz => low_of (List.all_eq_true.mp h z hz)
theorem spare_low : ∀ z ∈ SPARE, Low z := lows_of (by decide +kernel)
theorem DrawnOk.frm {s : Sh} (d : DrawnOk s) : Frm s := ⟨d.ok, d.n40, d.i4, d.o1, d.o7, fun x hx => spare_low x (d.sub x hx), d.ndn⟩
section
variable {P : Program} {w : World} {K : PySem.W.Frag} {mg : Str → Option Value} {base : Heap} {TT : Addr}
end
set_option Elab.async false
set_option linter.all false
set_option maxRecDepth 100000
set_option maxHeartbeats 4000000
structure SameE (s s' : Sh) : Prop where
  z : s'.z = s.z
  ws : s'.ws = s.ws
  edge : ∀ i, s.R i → ∀ p, p ∈ s'.node i ↔ p ∈ s.node i
section
variable {s s' : Sh}
theorem SameE.R (h : SameE s s') (i : Nat) : s'.R i ↔ s.R i := by
  have one : ∀ i, s.R i → s'.R i := fun i r => by
    induction r with
    | start => exact .start
    | @step a b ra hb ih =>
      obtain ⟨p, hp, rfl⟩ := List.mem_map.mp hb
      exact .step ih (List.mem_map.mpr ⟨p, (h.edge a ra p).mpr hp, rfl⟩)
  refine ⟨fun r => ?_, one i⟩
  induction r with
  | start => exact .start
  | @step a b ra hb ih =>
    obtain ⟨p, hp, rfl⟩ := List.mem_map.mp hb
    exact .step ih (List.mem_map.mpr ⟨p, (h.edge a ih p).mp hp, rfl⟩)
theorem SameE.lab (h : SameE s s') (lam : Nat → Str) : Lab s' lam ↔ Lab s lam := by
  unfold Lab
  rw [h.z, h.ws]
  refine ⟨fun ⟨a, b⟩ => ⟨a, fun i r p hp => b i ((h.R i).mpr r) p ((h.edge i r p).mpr hp)⟩, fun ⟨a, b⟩ => ⟨a, fun i r p hp => ?_⟩⟩
  have r' := (h.R i).mp r
  exact b i r' p ((h.edge i r' p).mp hp)
theorem SameE.sgs (h : SameE s s') (hl : s'.nodes.length = s.nodes.length) {vs : List V} (g : SgsOk s' vs) : SgsOk s vs :=
  ⟨g.len.trans hl, fun i r => by
    obtain ⟨y, a, b, c⟩ := g.row i ((h.R i).mpr r)
    rw [h.ws] at b
    exact ⟨y, a, b, fun lam l => c lam ((h.lab lam).mpr l)⟩, fun i hi nr => g.none i (by rw [hl]; exact hi) fun r => nr ((h.R i).mp r)⟩
theorem same_perm (hz : s'.z = s.z) (hw : s'.ws = s.ws) (hp : ∀ i, (s'.node i).Perm (s.node i)) : SameE s s' := ⟨hz, hw, fun i _ p => (hp i).mem_iff⟩
end
structure Ord (n : Nat) (o : List Nat) : Prop where
  perm : o.Perm (List.range n)
  zero : o[0]? = some 0
section
variable {n : Nat} {o : List Nat}
theorem Ord.nd (h : Ord n o) : o.Nodup := h.perm.nodup_iff.mpr List.nodup_range
theorem Ord.mem (h : Ord n o) {x : Nat} : x ∈ o ↔ x < n := by rw [h.perm.mem_iff, List.mem_range]
theorem Ord.len (h : Ord n o) : o.length = n := by rw [h.perm.length_eq, List.length_range]
theorem Ord.at (h : Ord n o) {x : Nat} (hx : x < n) : o[o.idxOf x]? = some x := by
  have hi := List.idxOf_lt_length_of_mem (h.mem.mpr hx)
  rw [List.getElem?_eq_getElem hi]; exact congrArg some (List.getElem_idxOf hi)
theorem Ord.lt (h : Ord n o) {x : Nat} (hx : x < n) : o.idxOf x < n := by rw [← h.len]; exact List.idxOf_lt_length_of_mem (h.mem.mpr hx)
theorem Ord.idx (h : Ord n o) {j x : Nat} (e : o[j]? = some x) : o.idxOf x = j := by
  obtain ⟨hj, e⟩ := List.getElem?_eq_some_iff.mp e
  rw [← e]; exact h.nd.idxOf_getElem j hj
theorem Ord.small (h : Ord n o) {j x : Nat} (e : o[j]? = some x) : x < n := h.mem.mp (List.mem_of_getElem? e)
end
noncomputable def numb (s : Sh) (o : List Nat) : Sh := { s with nodes := o.map fun old => (s.node old).map fun p => (p.1, o.idxOf p.2) }
section
variable {s : Sh} {o : List Nat}
theorem numb_node (h : Ord s.nodes.length o) {j x : Nat} (e : o[j]? = some x) : (numb s o).node j = (s.node x).map fun p => (p.1, o.idxOf p.2) := by
  unfold numb Sh.node
  rw [List.getD_eq_getElem?_getD, List.getElem?_map, e]; rfl
theorem numb_none (h : Ord s.nodes.length o) {j : Nat} (hj : s.nodes.length ≤ j) : (numb s o).node j = [] := by
  unfold numb Sh.node
  rw [List.getD_eq_getElem?_getD, List.getElem?_map, List.getElem?_eq_none (by rw [h.len]; exact hj)]; rfl
theorem numb_R (ok : ShOk s) (h : Ord s.nodes.length o) {j x : Nat} (e : o[j]? = some x) : (numb s o).R j ↔ s.R x := by
  have go : ∀ j, (numb s o).R j → ∃ x, o[j]? = some x ∧ s.R x := fun j r => by
    induction r with
    | start => exact ⟨0, h.zero, .start⟩
    | @step a b ra hb ih =>
      obtain ⟨x, ex, rx⟩ := ih
      obtain ⟨p, hp, rfl⟩ := List.mem_map.mp hb
      rw [numb_node h ex] at hp
      obtain ⟨q, hq, rfl⟩ := List.mem_map.mp hp
      exact ⟨q.2, h.at (ok.tos _ (Sh.node_mem (Sh.R_lt ok rx)) q hq), .step rx (List.mem_map.mpr ⟨q, hq, rfl⟩)⟩
  have back : ∀ x, s.R x → (numb s o).R (o.idxOf x) := fun x r => by
    induction r with
    | start => rw [h.idx h.zero]; exact .start
    | @step a b ra hb ih =>
      obtain ⟨p, hp, rfl⟩ := List.mem_map.mp hb
      refine .step ih (List.mem_map.mpr ⟨(p.1, o.idxOf p.2), ?_, rfl⟩)
      rw [numb_node h (h.at (Sh.R_lt ok ra))]
      exact List.mem_map.mpr ⟨p, hp, rfl⟩
  refine ⟨fun r => ?_, fun r => ?_⟩
  · obtain ⟨y, ey, ry⟩ := go j r
    rw [e] at ey; cases ey; exact ry
  · have := back x r
    rwa [h.idx e] at this
theorem numb_lab (ok : ShOk s) (h : Ord s.nodes.length o) {lam : Nat → Str} (l : Lab s lam) : Lab (numb s o) (fun j => lam (o.getD j 0)) := by
  have og : ∀ {j x}, o[j]? = some x → o.getD j 0 = x := fun {j x} e => by rw [List.getD_eq_getElem?_getD, e]; rfl
  refine ⟨by show lam (o.getD 0 0) = s.z; rw [og h.zero]; exact l.1, fun j r p hp => ?_⟩
  by_cases hj : j < s.nodes.length
  · obtain ⟨x, e⟩ : ∃ x, o[j]? = some x := ⟨_, List.getElem?_eq_getElem (by rw [h.len]; exact hj)⟩
    have rx := (numb_R ok h e).mp r
    rw [numb_node h e] at hp
    obtain ⟨q, hq, rfl⟩ := List.mem_map.mp hp
    show lam (o.getD (o.idxOf q.2) 0) = turnT (lam (o.getD j 0)) (s.ws.idxOf q.1)
    rw [og e, og (h.at (ok.tos _ (Sh.node_mem (Sh.R_lt ok rx)) q hq))]
    exact l.2 x rx q hq
  · rw [numb_none h (by omega)] at hp; cases hp
theorem numb_lab' (ok : ShOk s) (h : Ord s.nodes.length o) {mu : Nat → Str} (l : Lab (numb s o) mu) : Lab s (fun x => mu (o.idxOf x)) := by
  refine ⟨by show mu (o.idxOf 0) = s.z; rw [h.idx h.zero]; exact l.1, fun x r p hp => ?_⟩
  have e := h.at (Sh.R_lt ok r)
  have r' := (numb_R ok h e).mpr r
  refine l.2 _ r' (p.1, o.idxOf p.2) ?_
  rw [numb_node h e]
  exact List.mem_map.mpr ⟨p, hp, rfl⟩
theorem numb_len (h : Ord s.nodes.length o) : (numb s o).nodes.length = s.nodes.length := by
  unfold numb; show (o.map _).length = _; rw [List.length_map]; exact h.len
theorem numb_mem (h : Ord s.nodes.length o) {node : List (Str × Nat)} (hn : node ∈ (numb s o).nodes) : ∃ node0 ∈ s.nodes, node = node0.map fun p => (p.1, o.idxOf p.2) := by
  obtain ⟨x, hx, rfl⟩ := List.mem_map.mp hn
  exact ⟨s.node x, Sh.node_mem (h.mem.mp hx), rfl⟩
theorem numb_frm (fr : Frm s) (h : Ord s.nodes.length o) : Frm (numb s o) := by
  have ok := fr.ok
  refine ⟨⟨ok.nd, ok.w1, ok.w11, ok.st, by rw [numb_len h]; exact ok.n1, by rw [numb_len h]; exact ok.n100, fun node hn p hp => ?_, fun node hn p hp => ?_, fun node hn => ?_⟩, by rw [numb_len h]; exact fr.n40, fr.i4, fr.o1, fr.o7, fr.low, fun node hn => ?_⟩
  · obtain ⟨node0, h0, rfl⟩ := numb_mem h hn
    obtain ⟨q, hq, rfl⟩ := List.mem_map.mp hp
    exact ok.names _ h0 q hq
  · obtain ⟨node0, h0, rfl⟩ := numb_mem h hn
    obtain ⟨q, hq, rfl⟩ := List.mem_map.mp hp
    rw [numb_len h]
    exact h.lt (ok.tos _ h0 q hq)
  · obtain ⟨node0, h0, rfl⟩ := numb_mem h hn
    rw [List.length_map]; exact ok.few _ h0
  · obtain ⟨node0, h0, rfl⟩ := numb_mem h hn
    rw [List.map_map]; exact fr.ndn _ h0
theorem numb_sgs (ok : ShOk s) (h : Ord s.nodes.length o) {us vs : List V} (g : SgsOk s us) (g' : SgsOk (numb s o) vs) {lam : Nat → Str} (l : Lab s lam) : vs = o.map fun x => us.getD x .non := by
  refine List.ext_getElem? fun j => ?_
  rw [List.getElem?_map]
  by_cases hj : j < s.nodes.length
  · obtain ⟨x, e⟩ : ∃ x, o[j]? = some x := ⟨_, List.getElem?_eq_getElem (by rw [h.len]; exact hj)⟩
    rw [e]
    show _ = some (us.getD x .non)
    have hx := h.small e
    by_cases r : s.R x
    · obtain ⟨y, e1, _, l1⟩ := g.row x r
      obtain ⟨y', e2, _, l2⟩ := g'.row j ((numb_R ok h e).mpr r)
      have h1 := l1 lam l
      have h2 := l2 _ (numb_lab ok h l)
      have h3 : lam (o.getD j 0) = lam x := by rw [List.getD_eq_getElem?_getD, e]; rfl
      rw [e2, List.getD_eq_getElem?_getD, e1, ← h2, h3, h1]; rfl
    · rw [g'.none j (by rw [numb_len h]; exact hj) fun r' => r ((numb_R ok h e).mp r'), List.getD_eq_getElem?_getD, g.none x hx r]; rfl
  · rw [List.getElem?_eq_none (by rw [g'.len, numb_len h]; omega), List.getElem?_eq_none (by rw [h.len]; omega)]; rfl
end
noncomputable def pick (y : Str) (pl : List Nat) : Str := ⟨(pl.map fun i => y.cps.getD i 0).toArray⟩
theorem pick_get {y : Str} {pl : List Nat} {k i : Nat} (e : pl[k]? = some i) : (pick y pl).cps.getD k 0 = y.cps.getD i 0 := by
  unfold pick
  rw [Array.getD_eq_getD_getElem?]
  simp [e]
theorem pick_size (y : Str) (pl : List Nat) : (pick y pl).cps.size = pl.length := by unfold pick; simp
theorem str_ext {n : Nat} {y z : Str} (h1 : y.cps.size = n) (h2 : z.cps.size = n) (h : ∀ k, k < n → y.cps.getD k 0 = z.cps.getD k 0) : y = z := by
  cases y with | mk a => cases z with | mk b =>
  congr 1
  refine Array.ext (h1.trans h2.symm) fun i hi1 hi2 => ?_
  have := h i (by rw [← h1]; exact hi1)
  simpa [Array.getD, hi1, hi2] using this
theorem turn_get {n : Nat} {z : Str} (st : StOk n z) {i : Nat} (hi : i < n) {k : Nat} (hk : k < n) : (turnT z i).cps.getD k 0 = if k = i then (if (z.cps.getD i 0 == 49) = true then 48 else 49) else z.cps.getD k 0 := by
  have hl := st.len
  have e := turn_list st hi
  have lt : (z.cps.toList.take i).length = i := by rw [List.length_take, Array.length_toList]; omega
  rw [Array.getD_eq_getD_getElem?, ← Array.getElem?_toList, e]
  by_cases c : k = i
  · subst c
    rw [if_pos rfl, List.getElem?_append_right (by omega), lt, Nat.sub_self]; rfl
  · rw [if_neg c]
    by_cases c2 : k < i
    · rw [List.getElem?_append_left (by omega), List.getElem?_take_of_lt c2, Array.getElem?_toList, ← Array.getD_eq_getD_getElem?]
    · rw [List.getElem?_append_right (by omega), lt]
      have : k - i = (k - i - 1) + 1 := by omega
      rw [this, List.getElem?_cons_succ, List.getElem?_drop, show i + 1 + (k - i - 1) = k from by omega, Array.getElem?_toList, ← Array.getD_eq_getD_getElem?]
section
variable {ws ws' : List Str} (pm : ws'.Perm ws) (nd : ws.Nodup)
include pm nd
theorem pl_get {k : Nat} {x : Str} (e : ws'[k]? = some x) : (ws'.map ws.idxOf)[k]? = some (ws.idxOf x) := by rw [List.getElem?_map, e]; rfl
theorem pl_lt {k : Nat} {x : Str} (e : ws'[k]? = some x) : ws.idxOf x < ws.length := List.idxOf_lt_length_of_mem (pm.mem_iff.mp (List.mem_of_getElem? e))
theorem pick_ok {y : Str} (st : StOk ws.length y) : StOk ws'.length (pick y (ws'.map ws.idxOf)) := by
  refine ⟨by rw [pick_size, List.length_map], fun c hc => ?_⟩
  unfold pick at hc
  simp only [List.mem_map] at hc
  obtain ⟨i, ⟨x, hx, rfl⟩, rfl⟩ := hc
  have hi : ws.idxOf x < y.cps.size := by rw [st.len]; exact List.idxOf_lt_length_of_mem (pm.mem_iff.mp hx)
  refine st.signs _ ?_
  simp [Array.getD, hi]
theorem pick_turn {y : Str} (st : StOk ws.length y) {x : Str} (hx : x ∈ ws) : pick (turnT y (ws.idxOf x)) (ws'.map ws.idxOf) = turnT (pick y (ws'.map ws.idxOf)) (ws'.idxOf x) := by
  have nd' : ws'.Nodup := pm.nodup_iff.mpr nd
  have hx' : x ∈ ws' := pm.mem_iff.mpr hx
  have st' := pick_ok pm nd st
  have hi' := List.idxOf_lt_length_of_mem hx'
  have hi := List.idxOf_lt_length_of_mem hx
  refine str_ext (n := ws'.length) (by rw [pick_size, List.length_map]) (turn_ok st' hi').len fun k hk => ?_
  obtain ⟨u, eu⟩ : ∃ u, ws'[k]? = some u := ⟨_, List.getElem?_eq_getElem hk⟩
  have hu := pl_lt pm nd eu
  rw [pick_get (pl_get pm nd eu), turn_get st hi hu, turn_get st' hi' hk, pick_get (pl_get pm nd eu)]
  by_cases c : u = x
  · subst c
    have : k = ws'.idxOf u := by
      obtain ⟨h1, h2⟩ := List.getElem?_eq_some_iff.mp eu
      rw [← h2]; exact (nd'.idxOf_getElem k h1).symm
    rw [if_pos rfl, if_pos this, pick_get (pl_get pm nd (idx_at hx'))]
  · have c1 : ws.idxOf u ≠ ws.idxOf x := fun z => c (by
      have e1 := idx_at (pm.mem_iff.mp (List.mem_of_getElem? eu))
      have e2 := idx_at hx
      rw [z, e2] at e1
      exact (Option.some.inj e1).symm)
    have c2 : k ≠ ws'.idxOf x := fun z => c (by
      have e2 := idx_at hx'
      rw [← z, eu] at e2
      exact Option.some.inj e2)
    rw [if_neg c1, if_neg c2]
theorem pick_back {y : Str} (st : StOk ws.length y) : pick (pick y (ws'.map ws.idxOf)) (ws.map ws'.idxOf) = y := by
  refine str_ext (n := ws.length) (by rw [pick_size, List.length_map]) st.len fun k hk => ?_
  obtain ⟨u, eu⟩ : ∃ u, ws[k]? = some u := ⟨_, List.getElem?_eq_getElem hk⟩
  have hu : u ∈ ws' := pm.mem_iff.mpr (List.mem_of_getElem? eu)
  have e1 : (ws.map ws'.idxOf)[k]? = some (ws'.idxOf u) := by rw [List.getElem?_map, eu]; rfl
  rw [pick_get e1, pick_get (pl_get pm nd (idx_at hu))]
  have : ws.idxOf u = k := by
    obtain ⟨h1, h2⟩ := List.getElem?_eq_some_iff.mp eu
    rw [← h2]; exact nd.idxOf_getElem k h1
  rw [this]
end
noncomputable def pickV (pl : List Nat) : V → V
  | .str y => .str (pick y pl)
  | u => u
structure Rew (s s' : Sh) : Prop where
  nodes : s'.nodes = s.nodes
  perm : s'.ws.Perm s.ws
  z : s'.z = pick s.z (s'.ws.map s.ws.idxOf)
section
variable {s s' : Sh}
theorem Rew.R (h : Rew s s') : s'.R = s.R := by
  unfold Sh.R Sh.nx Sh.node
  rw [h.nodes]
theorem Rew.lab (ok : ShOk s) (h : Rew s s') {lam : Nat → Str} (l : Lab s lam) : Lab s' (fun i => pick (lam i) (s'.ws.map s.ws.idxOf)) := by
  refine ⟨by show pick (lam 0) _ = _; rw [l.1, h.z], fun i r p hp => ?_⟩
  rw [h.R] at r
  have hp' : p ∈ s.node i := by unfold Sh.node at hp ⊢; rw [← h.nodes]; exact hp
  show pick (lam p.2) _ = turnT (pick (lam i) _) _
  rw [l.2 i r p hp']
  exact pick_turn h.perm ok.nd (Sh.len_row ok l r) (ok.names _ (Sh.node_mem (Sh.R_lt ok r)) p hp')
theorem Rew.frm (fr : Frm s) (h : Rew s s') (li : s'.ins.length = s.ins.length) (lo : s'.outs.length = s.outs.length) : Frm s' := by
  have ok := fr.ok
  have lw : s'.ws.length = s.ws.length := h.perm.length_eq
  refine ⟨⟨h.perm.nodup_iff.mpr ok.nd, by rw [lw]; exact ok.w1, by rw [lw]; exact ok.w11, ?_, by rw [h.nodes]; exact ok.n1, by rw [h.nodes]; exact ok.n100, fun node hn p hp => ?_, fun node hn p hp => ?_, fun node hn => ?_⟩, by rw [h.nodes]; exact fr.n40, by rw [li]; exact fr.i4, by rw [lo]; exact fr.o1, by rw [lo]; exact fr.o7, fun x hx => fr.low x (h.perm.mem_iff.mp hx), fun node hn => ?_⟩
  · rw [h.z]; exact pick_ok h.perm ok.nd ok.st
  · rw [h.nodes] at hn; exact h.perm.mem_iff.mpr (ok.names _ hn p hp)
  · rw [h.nodes] at hn ⊢; exact ok.tos _ hn p hp
  · rw [h.nodes] at hn; exact ok.few _ hn
  · rw [h.nodes] at hn; exact fr.ndn _ hn
theorem Rew.symm (ok : ShOk s) (h : Rew s s') : Rew s' s := ⟨h.nodes.symm, h.perm.symm, by rw [h.z]; exact (pick_back h.perm ok.nd ok.st).symm⟩
theorem Rew.sgs (ok : ShOk s) (h : Rew s s') {us vs : List V} (g : SgsOk s us) (g' : SgsOk s' vs) {lam : Nat → Str} (l : Lab s lam) : vs = us.map (pickV (s'.ws.map s.ws.idxOf)) := by
  have ln : s'.nodes.length = s.nodes.length := by rw [h.nodes]
  refine List.ext_getElem? fun j => ?_
  rw [List.getElem?_map]
  by_cases hj : j < s.nodes.length
  · by_cases r : s.R j
    · obtain ⟨y, e1, _, l1⟩ := g.row j r
      obtain ⟨y', e2, _, l2⟩ := g'.row j (by rw [h.R]; exact r)
      rw [e1, e2, ← l2 _ (h.lab ok l), l1 lam l]; rfl
    · rw [g'.none j (by rw [ln]; exact hj) (by rw [h.R]; exact r), g.none j hj r]; rfl
  · rw [List.getElem?_eq_none (by rw [g'.len, ln]; omega), List.getElem?_eq_none (by rw [g.len]; omega)]; rfl
end
open Classical in
noncomputable def bare (s : Sh) : Sh := { s with nodes := s.nodes.zipIdx.map fun p => if s.R p.2 then p.1 else [] }
section
variable {s : Sh}
open Classical in
theorem bare_node {i : Nat} (hi : i < s.nodes.length) : (bare s).node i = if s.R i then s.node i else [] := by
  unfold bare Sh.node
  rw [List.getD_eq_getElem?_getD, List.getElem?_map, List.getElem?_zipIdx, List.getElem?_eq_getElem hi, List.getD_eq_getElem?_getD, List.getElem?_eq_getElem hi]
  simp
theorem bare_same (ok : ShOk s) : SameE s (bare s) := ⟨rfl, rfl, fun i r p => by rw [bare_node (Sh.R_lt ok r), if_pos r]⟩
theorem bare_len : (bare s).nodes.length = s.nodes.length := by unfold bare; simp
theorem bare_ok (ok : ShOk s) : ShOk (bare s) := by
  have mem : ∀ node ∈ (bare s).nodes, node ∈ s.nodes ∨ node = [] := fun node hn => by
    obtain ⟨i, hi, e⟩ := List.mem_iff_getElem.mp hn
    rw [bare_len] at hi
    have e2 : (bare s).node i = node := by unfold Sh.node; rw [List.getD_eq_getElem?_getD, List.getElem?_eq_getElem (by rw [bare_len]; exact hi), e]; rfl
    rw [bare_node hi] at e2
    by_cases r : s.R i
    · rw [if_pos r] at e2; exact .inl (e2 ▸ Sh.node_mem hi)
    · rw [if_neg r] at e2; exact .inr e2.symm
  refine ⟨ok.nd, ok.w1, ok.w11, ok.st, by rw [bare_len]; exact ok.n1, by rw [bare_len]; exact ok.n100, fun node hn p hp => ?_, fun node hn p hp => ?_, fun node hn => ?_⟩
  · rcases mem node hn with h | h
    · exact ok.names _ h p hp
    · rw [h] at hp; cases hp
  · rw [bare_len]
    rcases mem node hn with h | h
    · exact ok.tos _ h p hp
    · rw [h] at hp; cases hp
  · rcases mem node hn with h | h
    · exact ok.few _ h
    · rw [h]; exact Nat.zero_le _
end
noncomputable def shuf (s : Sh) (nodes' : List (List (Str × Nat))) : Sh := { s with nodes := nodes' }
theorem paired_perm {s : Sh} {nodes' : List (List (Str × Nat))} (h : Paired (fun a b => List.Perm a b) nodes' s.nodes) (i : Nat) : ((shuf s nodes').node i).Perm (s.node i) := by
  unfold shuf Sh.node
  rw [List.getD_eq_getElem?_getD, List.getD_eq_getElem?_getD]
  show (nodes'[i]?.getD []).Perm _
  have ln := paired_len h
  by_cases hi : i < nodes'.length
  · obtain ⟨y, e, pm⟩ := paired_get h (List.getElem?_eq_getElem hi)
    rw [List.getElem?_eq_getElem hi, e]; exact pm
  · rw [List.getElem?_eq_none (by omega), List.getElem?_eq_none (by omega)]
theorem shuf_frm {s : Sh} {nodes' : List (List (Str × Nat))} (fr : Frm s) (h : Paired (fun a b => List.Perm a b) nodes' s.nodes) : Frm (shuf s nodes') := by
  have ok := fr.ok
  have ln : (shuf s nodes').nodes.length = s.nodes.length := paired_len h
  have mem : ∀ node ∈ (shuf s nodes').nodes, ∃ node0 ∈ s.nodes, node.Perm node0 := fun node hn => by
    obtain ⟨i, hi, e⟩ := List.mem_iff_getElem.mp hn
    obtain ⟨y, e2, pm⟩ := paired_get h (x := node) (i := i) (by have hi' : i < nodes'.length := hi; rw [List.getElem?_eq_getElem hi']; exact congrArg some e)
    exact ⟨y, List.mem_of_getElem? e2, pm⟩
  refine ⟨⟨ok.nd, ok.w1, ok.w11, ok.st, by rw [ln]; exact ok.n1, by rw [ln]; exact ok.n100, fun node hn p hp => ?_, fun node hn p hp => ?_, fun node hn => ?_⟩, by rw [ln]; exact fr.n40, fr.i4, fr.o1, fr.o7, fr.low, fun node hn => ?_⟩
  · obtain ⟨n0, h0, pm⟩ := mem node hn
    exact ok.names _ h0 p (pm.mem_iff.mp hp)
  · obtain ⟨n0, h0, pm⟩ := mem node hn
    rw [ln]
    exact ok.tos _ h0 p (pm.mem_iff.mp hp)
  · obtain ⟨n0, h0, pm⟩ := mem node hn
    rw [pm.length_eq]; exact ok.few _ h0
  · obtain ⟨n0, h0, pm⟩ := mem node hn
    exact (pm.map _).nodup_iff.mpr (fr.ndn _ h0)
set_option Elab.async false
set_option linter.all false
set_option maxRecDepth 100000
set_option maxHeartbeats 4000000

theorem perm_map_of {α β : Type} {f : α → β} : ∀ {ys zs : List β}, ys.Perm zs → ∀ l : List α, zs = l.map f → ∃ l' : List α, l'.Perm l ∧ ys = l'.map f := by
  intro ys zs h
  induction h with
  | nil => intro l e; cases l with
    | nil => exact ⟨[], .refl _, rfl⟩
    | cons a l => cases e
  | cons x _ ih => intro l e; cases l with
    | nil => cases e
    | cons a l =>
      rw [List.map_cons] at e
      cases e
      obtain ⟨l', h1, h2⟩ := ih l rfl
      exact ⟨a :: l', h1.cons a, by rw [h2]; rfl⟩
  | swap x y zs => intro l e; match l, e with
    | a :: b :: l, e =>
      cases e
      exact ⟨b :: a :: l, .swap _ _ _, rfl⟩
  | trans _ _ ih1 ih2 =>
    intro l e
    obtain ⟨l2, h1, h2⟩ := ih2 l e
    obtain ⟨l3, h3, h4⟩ := ih1 l2 h2
    exact ⟨l3, h3.trans h1, h4⟩
theorem r_neNil {K : PySem.W.Frag} {H : Hp} {R : Bool → Hp → Prop} {l : Addr} {xs : List V} {σ : St} (hl : H l = some (.lst xs)) (q : ∀ H', Same H H' → R (!decide (xs.length = 0)) H') : tLst tNil σ H fun y H2 => rEqL K true (.ref l) y H2 fun x H' => ∃ k, x = .bl k ∧ R k H' := by
  refine i_lst (i_nil ⟨by simp [sizeLine], fun p hp => ?_⟩)
  refine ⟨l, p, xs, [], fun _ => true, rfl, rfl, SqL.of (fresh_same hp _ _ hl), SqL.of upd_same, fun j x y _ e => by simp at e, _, rfl, ?_⟩
  have e : (if true = true then !(xs.length == ([] : List V).length && (List.range xs.length).all fun _ => true) else (xs.length == ([] : List V).length && (List.range xs.length).all fun _ => true)) = !decide (xs.length = 0) := by
    rw [if_pos rfl, all_tt, Bool.and_true]
    rfl
  rw [e]
  exact q _ (fresh_same hp)
noncomputable def spShuf : Sp := fun vs H Q _ => ∃ (D : Dk) (l : Addr) (xs : List V), vs = [.ref D.d, .ref l] ∧ D.At H ∧ H l = some (.lst xs) ∧ xs.length ≤ 100 ∧ ∀ p (ys : List V) H', H p = none → H' p = some (.lst ys) → ys.Perm xs → Kp D H H' → Q (.ref p) H'
section
variable {P : Program} {w : World} {K : PySem.W.Frag} {mg : Str → Option Value} {base : Heap} {TT : Addr}
theorem sc_law_shuffled : FnScope ["store", "some", "left", "found"] ["store", "some"] (defScope (top 35)) := ⟨rfl, rfl, rfl, by decide +kernel, rfl, by decide +kernel, by decide +kernel⟩
theorem ok_shuf {f : Addr} {fd : FuncData} (Fu : Fun K "_law_shuffled" "_law_shuffled" (top 35) f fd) (T : Txt K mg TT) (f_law_take : Fn P w K mg base "_law_take" ["store", "many"] 1 spDraw) : FnOk P w K mg base CX0 2 f fd ["store", "some"] spShuf := by
  have S := sc_law_shuffled
  refine Fu.ok S (fun vs H Q E h => ?_) (fun cdv A outer s H vs Q E hr h => ?_)
  · obtain ⟨D, l, xs, rfl, _⟩ := h
    rfl
  · obtain ⟨D, l, xs, rfl, DA, hl, lx, k⟩ := h
    refine' ⟨?_, ?bb, ?_⟩
    case bb =>
      refine' pss_cons ?s1 ?r1
      case s1 =>
        refine' ps_set (i := 2) ?n ?r ?l ?e ?s ?f
        case n => exact S.nd
        case r => rfl
        case l => first | exact Or.inl rfl | exact Or.inr rfl
        case s => rfl
        case f => first | exact Or.inl rfl | exact Or.inr rfl
        case e => exact (pe_callTy call_list_of (by rfl) T.n_list PyProof.Rows.boot_list (pa_cons (pv 1) pa_nil se_name))
      case r1 =>
        with_reducible refine' pss_cons ?s3 ?r3
        case s3 =>
          refine' ps_set (i := 3) ?n ?r ?l ?e ?s ?f
          case n => exact S.nd
          case r => rfl
          case l => first | exact Or.inl rfl | exact Or.inr rfl
          case s => rfl
          case f => first | exact Or.inl rfl | exact Or.inr rfl
          case e => exact (pe_lst pa_nil)
        case r3 =>
          with_reducible refine' pss_cons ?s5 ?r5
          case s5 =>
            refine' ps_while PassesOwn.never ?c6 ?b6
            case c6 => exact (pt_cmpR (op_neL hr.units) (pv 2) (pe_lst pa_nil) (nomark _))
            case b6 =>
              with_reducible refine' pss_one ?s7
              case s7 =>
                exact (ps_expr (pe_bm PySem.F.plainAttrs_list PySem.F.slot_list_append PySem.F.type_list_append mt_append (pv 3) (pa_cons (pe_bm PySem.F.plainAttrs_list PySem.F.slot_list_pop PySem.F.type_list_pop mt_popAt (pv 2) (pa_cons (pe_fn f_law_take (hr.mono (by first | decide | omega)) (by rfl) (pa_cons (pv 0) (pa_cons (pe_callB call_len_seq (by rfl) T.n_len PySem.boot_len (pa_cons (pv 2) pa_nil se_name)) pa_nil se_call) se_name)) pa_nil se_call)) pa_nil se_call)))
          case r5 =>
            with_reducible refine' pss_one ?s9
            case s9 =>
              exact (ps_ret (pv 3))
    try dsimp only [cxOf, Cx.nox, Cx.wish]
    rw [show L2.start ["store", "some", "left", "found"] [V.ref D.d, V.ref l] = [some (.ref D.d), some (.ref l), none, none] from rfl]
    have big : 1000 < sizeLine := by decide
    repeat walk_at "vc"
    intro p hp
    generalize hE : upd H p _ = H1
    obtain ⟨S1, q1⟩ := upd_pair hp hE
    clear hE
    have k1 := Kp.of DA S1
    repeat walk_at "vc"
    refine ⟨by simp [sizeLine], fun q hq => ?_⟩
    generalize hE : upd H1 q _ = H2
    obtain ⟨S2, q2⟩ := upd_pair hq hE
    clear hE
    have npq : p ≠ q := ne_of_none q1 hq
    have hq0 : H q = none := k1.free hq
    have k2 := k1.trans (Kp.of k1.dk S2)
    with_reducible refine s_name ?_
    with_reducible refine s_seq ?_
    refine ⟨fun m σ' H' => ∃ (lf fd : List V), σ' = [some (.ref D.d), some (.ref l), some (.ref p), some (.ref q)] ∧ m = lf.length ∧ Kp D H H' ∧ H' p = some (.lst lf) ∧ H' q = some (.lst fd) ∧ (fd ++ lf).Perm xs, ⟨_, xs, [], rfl, rfl, k2, S2 _ _ q1, q2, .refl _⟩, fun m σ' H' pv => ?_⟩
    obtain ⟨lf, fd, rfl, rfl, kp, hp3, hq3, pm⟩ := pv
    have lsum : fd.length + lf.length ≤ 100 := by have := pm.length_eq; rw [List.length_append] at this; omega
    refine i_test (i_op (i_var rfl ?_))
    refine r_neNil hp3 fun H3 S3 => ?_
    have kp3 := kp.trans (Kp.of kp.dk S3)
    have hp4 := S3 _ _ hp3
    have hq4 := S3 _ _ hq3
    have np : ¬ D.own p := notOwn_fresh DA hp
    have nq : ¬ D.own q := notOwn_fresh k1.dk hq
    by_cases c0 : lf.length = 0
    · refine ifF (by rw [decide_eq_true c0]; rfl) ?_
      have e : lf = [] := List.eq_nil_of_length_eq_zero c0
      subst e
      rw [List.append_nil] at pm
      repeat walk_at "vc"
      exact k q fd H3 hq0 hq4 pm kp3
    · refine ifT (by rw [decide_eq_false c0]; rfl) ⟨_, fun σ' H' h => h, ?_⟩
      refine s_drop (i_bm (i_var rfl ⟨i_tyL hq4, i_cons (i_bm (i_var rfl ⟨i_tyL hp4, ?_⟩))⟩))
      repeat walk_at "vc"
      refine ⟨D, _, rfl, kp3.dk, by omega, by omega, fun r H5 r0 r1 k5 => ?_⟩
      have hp5 := k5.old _ _ hp4 np
      have hq5 := k5.old _ _ hq4 nq
      have hjl : r.toNat < lf.length := by omega
      refine i_nil ?_
      refine ⟨p, lf, r, r.toNat, lf[r.toNat], rfl, rfl, hp5, by omega, by omega, ?_, List.getElem?_eq_getElem hjl, ?_⟩
      · have : ixN lf.length r = some r.toNat := by unfold ixN; rw [if_pos r0, if_pos r1]
        exact (ixN_seq this).1
      have pm2 : ((fd ++ [lf[r.toNat]]) ++ lf.eraseIdx r.toNat).Perm (fd ++ lf) := by
        rw [List.append_assoc]
        exact List.Perm.append_left _ (perm_erase lf r.toNat hjl)
      have le : (lf.eraseIdx r.toNat).length = lf.length - 1 := by rw [List.length_eraseIdx, if_pos hjl]
      refine i_nil (i_app (by rw [upd_ne npq.symm]; exact hq5) (by omega) ?_)
      refine ⟨lf.length - 1, by omega, lf.eraseIdx r.toNat, fd ++ [lf[r.toNat]], rfl, le.symm, Kp.fresh DA hq0 (Kp.fresh DA hp (kp3.trans k5)), by rw [upd_ne npq, upd_same], upd_same, pm2.trans pm⟩
end
set_option Elab.async false
set_option linter.all false
set_option maxRecDepth 100000
set_option maxHeartbeats 4000000

noncomputable def natV (x : Nat) : V := .int (x : Int)
noncomputable def spNumb : Sp := fun vs H Q _ => ∃ (D : Dk) (a li lo ln : Addr) (nas : List Addr) (s : Sh), vs = [.ref D.d, .ref a] ∧ D.At H ∧ ShAt H a li lo ln nas s ∧ ShOk s ∧
  ∀ (t o a' ln' : Addr) (nas' : List Addr) (ord : List Nat) H', Kp D H H' → H' t = some (.tup [.ref o, .ref a']) → H o = none → H' o = some (.lst (ord.map natV)) → Ord s.nodes.length ord → ShAt H' a' li lo ln' nas' (numb s ord) → Q (.ref t) H'
theorem idx_firstN {o : List Nat} {x : Nat} : ∀ m, m < o.idxOf x → (o.map fun (x : Nat) => (x : Int))[m]? ≠ some (x : Int) := fun m hm e => by
  rw [List.getElem?_map] at e
  have h1 := List.not_of_lt_findIdx (xs := o) (p := (· == x)) (i := m) hm
  cases h2 : o[m]? with
  | none => rw [h2] at e; cases e
  | some y =>
    rw [h2] at e
    have e : (y : Int) = (x : Int) := Option.some.inj e
    have e : y = x := by omega
    obtain ⟨h3, e2⟩ := List.getElem?_eq_some_iff.mp h2
    rw [e2, e] at h1
    simp at h1
theorem i_lrange {ta : TA} {σ : St} {H : Hp} {Q : VK} (q : ta σ H fun vs H1 => ∃ (lo : Int) (n : Nat), vs = [.int lo, .int (lo + n)] ∧ -1000 ≤ lo ∧ lo ≤ 1000 ∧ n ≤ 1000 ∧ ∀ l, H1 l = none → Q (.ref l) (upd H1 l (.lst ((List.range n).map fun (i : Nat) => V.int (lo + (i : Int)))))) : tLRange ta σ H Q := q
theorem map_nat (o : List Nat) : (o.map fun (x : Nat) => (x : Int)).map V.int = o.map natV := by rw [List.map_map]; rfl
section
variable {P : Program} {w : World} {K : PySem.W.Frag} {mg : Str → Option Value} {base : Heap} {TT : Addr}
theorem sc_law_numbered : FnScope ["store", "sheet", "order", "nodes", "old"] ["store", "sheet"] (defScope (top 36)) := ⟨rfl, rfl, rfl, by decide +kernel, rfl, by decide +kernel, by decide +kernel⟩
theorem ok_numb {f : Addr} {fd : FuncData} (Fu : Fun K "_law_numbered" "_law_numbered" (top 36) f fd) (T : Txt K mg TT) (f_law_shuffled : Fn P w K mg base "_law_shuffled" ["store", "some"] 2 spShuf) : FnOk P w K mg base CX0 3 f fd ["store", "sheet"] spNumb := by
  have S := sc_law_numbered
  refine Fu.ok S (fun vs H Q E h => ?_) (fun cdv A outer s H vs Q E hr h => ?_)
  · obtain ⟨D, a, li, lo, ln, nas, sh, rfl, _⟩ := h
    rfl
  · obtain ⟨D, a, li, lo, ln, nas, sh, rfl, DA, at_, ok, k⟩ := h
    refine' ⟨?_, ?bb, ?_⟩
    case bb =>
      refine' pss_cons ?s1 ?r1
      case s1 =>
        refine' ps_set (i := 2) ?n ?r ?l ?e ?s ?f
        case n => exact S.nd
        case r => rfl
        case l => first | exact Or.inl rfl | exact Or.inr rfl
        case s => rfl
        case f => first | exact Or.inl rfl | exact Or.inr rfl
        case e =>
          with_reducible refine' pe_op op_cat ?l3 ?q3
          case l3 =>
            with_reducible refine' pe_lst ?a4
            case a4 =>
              with_reducible refine' pa_cons ?e5 ?s5 se_con
              case e5 =>
                exact pe_int
              case s5 =>
                exact pa_nil
          case q3 =>
            refine' pe_fn f_law_shuffled (hr.mono (by first | decide | omega)) (by rfl) ?a7
            case a7 =>
              with_reducible refine' pa_cons ?e8 ?s8 se_name
              case e8 =>
                exact (pv 0)
              case s8 =>
                with_reducible refine' pa_cons ?e10 ?s10 se_call
                case e10 =>
                  exact (pe_lrange rfl (by rfl) T.n_list (by rfl) T.n_range (pa_cons pe_int (pa_cons (pe_callB call_len_seq (by rfl) T.n_len PySem.boot_len (pa_cons (pe_ix ix_tup (pv 1) pe_int (fun _ _ => rfl)) pa_nil)) pa_nil se_call) se_con))
                case s10 =>
                  exact pa_nil
      case r1 =>
        with_reducible refine' pss_cons ?s12 ?r12
        case s12 =>
          refine' ps_set (i := 3) ?n ?r ?l ?e ?s ?f
          case n => exact S.nd
          case r => rfl
          case l => first | exact Or.inl rfl | exact Or.inr rfl
          case s => rfl
          case f => first | exact Or.inl rfl | exact Or.inr rfl
          case e => exact (pe_lst pa_nil)
        case r12 =>
          with_reducible refine' pss_cons ?s14 ?r14
          case s14 =>
            refine' ps_for PassesOwn.never rfl ?i15 ?g15 ?b15 ?h15
            case h15 => intro _; rfl
            case i15 => exact (pi_list (pv 2))
            case g15 => exact (pg_name (i := 4) S.nd rfl (by first | exact Or.inl rfl | exact Or.inr rfl))
            case b15 =>
              with_reducible refine' pss_one ?s16
              case s16 =>
                refine' ps_expr ?e
                case e =>
                  refine' pe_bm PySem.F.plainAttrs_list PySem.F.slot_list_append PySem.F.type_list_append mt_append (pv 3) ?a
                  case a =>
                    with_reducible refine' pa_cons ?e18 ?s18 se_lc
                    case e18 =>
                      exact (pe_lc (tgs := ["name", "to"]) (cap := [("order", 2)]) rfl ⟨rfl, rfl, rfl, rfl, rfl, rfl⟩ (pi_list (pe_ix ix_list (pe_ix ix_tup (pv 1) pe_int (fun _ _ => rfl)) (pv 4) (fun _ _ => rfl))) (fun _ _ _ _ => (pg_tupK (K := K) (n := 2) rfl rfl (pgs_cons (pg_name (i := 0) (show List.Nodup [("name" : Str), ("to" : Str), ("order" : Str)] by decide +kernel) rfl (by first | exact Or.inl rfl | exact Or.inr rfl)) (pgs_cons (pg_name (i := 1) (show List.Nodup [("name" : Str), ("to" : Str), ("order" : Str)] by decide +kernel) rfl (by first | exact Or.inl rfl | exact Or.inr rfl)) pgs_nil)))) (fun _ _ _ _ => pifs_nil) (fun _ _ _ _ => (pe_tup (pa_cons (pv 0) (pa_cons (pe_bmK (K := K) rfl PySem.F.plainAttrs_list PySem.F.slot_list_index PySem.F.type_list_index mt_indexI (pv 2) (pa_cons (pv 1) pa_nil se_name)) pa_nil se_call) se_name))))
                    case s18 =>
                      exact pa_nil
          case r14 =>
            with_reducible refine' pss_one ?s20
            case s20 =>
              with_reducible refine' ps_ret ?e
              case e =>
                with_reducible refine' pe_tup ?a22
                case a22 =>
                  with_reducible refine' pa_cons ?e23 ?s23 se_name
                  case e23 =>
                    exact (pv 2)
                  case s23 =>
                    with_reducible refine' pa_cons ?e25 ?s25 se_tup
                    case e25 =>
                      with_reducible refine' pe_tup ?a26
                      case a26 =>
                        with_reducible refine' pa_cons ?e27 ?s27 se_sub
                        case e27 =>
                          exact (pe_ix ix_tup (pv 1) pe_int (fun _ _ => rfl))
                        case s27 =>
                          with_reducible refine' pa_cons ?e29 ?s29 se_sub
                          case e29 =>
                            exact (pe_ix ix_tup (pv 1) pe_int (fun _ _ => rfl))
                          case s29 =>
                            with_reducible refine' pa_cons ?e31 ?s31 se_sub
                            case e31 =>
                              exact (pe_ix ix_tup (pv 1) pe_int (fun _ _ => rfl))
                            case s31 =>
                              with_reducible refine' pa_cons ?e33 ?s33 se_name
                              case e33 =>
                                exact (pv 3)
                              case s33 =>
                                exact pa_nil
                    case s25 =>
                      exact pa_nil
    try dsimp only [cxOf, Cx.nox, Cx.wish]
    rw [show L2.start ["store", "sheet", "order", "nodes", "old"] [V.ref D.d, V.ref a] = [some (.ref D.d), some (.ref a), none, none, none] from rfl]
    have big : 1000 < sizeLine := by decide
    have n1 := ok.n1
    have n100 := ok.n100
    have ha := at_.ha
    have lnas := paired_len at_.nodes
    repeat walk_at "vc"
    refine ⟨by simp [sizeLine], fun p0 hp0 => ?_⟩
    generalize hE : upd H p0 _ = H1
    obtain ⟨S1, q1⟩ := upd_pair hp0 hE
    clear hE
    have k1 := Kp.of DA S1
    have at1 := at_.same S1
    have ha1 := at1.ha
    have hn1 := at1.hn
    repeat walk_at "vc"
    refine i_lrange ?_
    repeat walk_at "vc"
    refine ⟨1, sh.nodes.length - 1, by rw [List.length_map, lnas]; congr 3; omega, by decide, by decide, by omega, fun p2 hp2 => ?_⟩
    generalize hE : upd H1 p2 _ = H2
    obtain ⟨S2, q2⟩ := upd_pair hp2 hE
    clear hE
    have k2 := k1.trans (Kp.of k1.dk S2)
    repeat walk_at "vc"
    refine ⟨D, p2, _, rfl, k2.dk, q2, by rw [List.length_map, List.length_range]; omega, fun p3 ys H3 hp3 q3 pm k3 => ?_⟩
    have k03 := k2.trans k3
    have q13 : H3 p0 = some (.lst [.int 0]) := k3.old _ _ (S2 _ _ q1) (notOwn_fresh DA hp0)
    obtain ⟨xs, pmx, rfl⟩ := perm_map_of pm (f := fun (i : Nat) => V.int (1 + (i : Int))) _ rfl
    have lxs : xs.length = sh.nodes.length - 1 := by rw [pmx.length_eq, List.length_range]
    obtain ⟨ord, hord⟩ : ∃ ord : List Nat, ord = 0 :: xs.map (1 + ·) := ⟨_, rfl⟩
    have ordV : ([V.int 0] ++ xs.map fun (i : Nat) => V.int (1 + (i : Int))) = ord.map natV := by
      rw [hord, List.map_cons, List.map_map]
      show _ :: _ = _ :: _
      congr 1
    have od : Ord sh.nodes.length ord := by
      refine ⟨?_, by rw [hord]; rfl⟩
      have e : List.range sh.nodes.length = 0 :: (List.range (sh.nodes.length - 1)).map (1 + ·) := by
        obtain ⟨m, hm⟩ : ∃ m, sh.nodes.length = m + 1 := ⟨sh.nodes.length - 1, by omega⟩
        rw [hm, List.range_succ_eq_map]
        simp only [Nat.add_sub_cancel]
        congr 1
        refine List.map_congr_left fun i _ => ?_
        omega
      rw [hord, e]
      exact (pmx.map _).cons 0
    refine i_cat q13 q3 (by simp; omega) fun o ho => ?_
    rw [ordV]
    generalize hE : upd H3 o _ = H4
    obtain ⟨S4, q4⟩ := upd_pair ho hE
    clear hE
    have k04 := k03.trans (Kp.of k03.dk S4)
    have o0 : H o = none := k03.free ho
    repeat walk_at "vc"
    refine ⟨by simp [sizeLine], fun N hN => ?_⟩
    generalize hE : upd H4 N _ = H5
    obtain ⟨S5, q5⟩ := upd_pair hN hE
    clear hE
    have k05 := k04.trans (Kp.of k04.dk S5)
    have N0 : H N = none := k04.free hN
    have q45 := S5 _ _ q4
    have oN : o ≠ N := ne_of_none q4 hN
    have at5 := at_.kp DA k05
    have lord := od.len
    have offN : ∀ {b u}, H4 b = some u → b ≠ N := fun e => ne_of_none e hN
    have at4 := at_.kp DA k04
    with_reducible refine s_name ?_
    with_reducible refine s_seq ?_
    refine s_for (s_list (i_var rfl ⟨o, rfl, ⟨_, SqL.of q45⟩, ?_⟩))
    refine for_list (xs := ord.map natV) (fun i σ' H' => ∃ (nas' : List Addr) (x4 : Option V), σ' = [some (.ref D.d), some (.ref a), some (.ref o), some (.ref N), x4] ∧ H' N = some (.lst (nas'.map V.ref)) ∧ (∀ b u, H4 b = some u → H' b = some u) ∧ (∀ b ∈ nas', b ≠ N) ∧ Paired (fun na node => StepsAt H' na (nodeV node)) nas' ((ord.take i).map fun old => (sh.node old).map fun p => (p.1, ord.idxOf p.2)))
      ⟨[], _, rfl, q5, fun b u e => S5 _ _ e, fun b h => (nomatch h), .nil⟩ (fun i σ' H' _ pv => ?_) (fun i v σ' H' hv pv => ?_) (fun σ' H' pv => ?_)
    · obtain ⟨_, _, _, _, o4, _⟩ := pv
      exact SqL.of (o4 _ _ q4)
    · obtain ⟨nas', x4, rfl, hN', o4, nN, prs⟩ := pv
      rw [List.getElem?_map] at hv
      cases ex : ord[i]? with
      | none => rw [ex] at hv; cases hv
      | some x =>
        rw [ex] at hv
        cases hv
        have hx := od.small ex
        have at' : ShAt H' a li lo ln nas sh := at4.mono (fun b xs e => o4 _ _ e) (fun b xs e => o4 _ _ e)
        have ha' := at'.ha
        have hn' := at'.hn
        have ho' := o4 _ _ q4
        obtain ⟨na, hna, hst⟩ := paired_get' at'.nodes (List.getElem?_eq_getElem hx)
        rw [← Sh.node_of (List.getElem?_eq_getElem hx)] at hst
        obtain ⟨vs, hvs, pvs⟩ := hst
        have lvs : vs.length = (sh.node x).length := steps_len pvs
        have few := ok.few _ (Sh.node_mem hx)
        have hil : i < ord.length := (List.getElem?_eq_some_iff.mp ex).1
        have lnas' : nas'.length = i := by rw [paired_len prs, List.length_map, List.length_take]; omega
        refine s_name ?_
        refine s_drop (i_bm (i_var rfl ⟨i_tyL hN', i_cons ?_⟩))
        refine i_comp (s_list (i_op (i_op (i_var rfl (i_c (i_ixT ha' rfl (i_var rfl (i_ixL (v := .ref na) (SqL.of hn') (atI_nat (by rw [List.getElem?_map, hna]; rfl)) ⟨na, rfl, ⟨_, SqL.of hvs⟩, fun L hL => ?_⟩))))))))
        have LN : L ≠ N := (ne_of_none hN' hL).symm
        refine comp_list (xs := vs) (fun n H'' ys => Same H' H'' ∧ H'' L = some (.lst ys) ∧ Paired (fun v (st : V × Key) => ∃ b, v = .ref b ∧ H'' b = some (.tup [st.1, kV st.2])) ys (nodeV (((sh.node x).take n).map fun p => (p.1, ord.idxOf p.2)))) ⟨fresh_same hL, upd_same, .nil⟩ (fun n H'' ys p => ⟨p.2.1, SqL.of (p.1 _ _ hvs)⟩) (fun n y H'' ys e p => ?_) (fun H6 ys p => ?_)
        · obtain ⟨Sm, hd, prd⟩ := p
          obtain ⟨p, b, hpn, rfl, hb⟩ := steps_get pvs e
          have hn : n < vs.length := (List.getElem?_eq_some_iff.mp e).1
          have hpm := List.mem_of_getElem? hpn
          have hp2 := ok.tos _ (Sh.node_mem hx) p hpm
          have hi2 := od.lt hp2
          have lys : ys.length = n := by
            have := paired_len prd
            unfold nodeV at this
            rw [List.length_map, List.length_map, List.length_take] at this
            omega
          refine ⟨b, _, rfl, SqT.of (Sm _ _ hb), rfl, _, _, rfl, s_name ⟨_, _, rfl, s_name ⟨rfl, by repeat' (first | exact trivial | refine ⟨rfl, ?_⟩), i_yes (iteT ?_)⟩⟩⟩
          have ho'' := Sm _ _ ho'
          refine i_tup (i_cons (i_var rfl (i_cons (i_bm (i_var rfl ⟨i_tyL ho'', i_cons (i_var rfl (i_nil ?_))⟩)))))
          refine ⟨o, ord.map fun (x : Nat) => (x : Int), (p.2 : Int), ord.idxOf p.2, rfl, rfl, by rw [map_nat]; exact ho'', by rw [List.getElem?_map, od.at hp2]; rfl, idx_firstN, by rw [List.length_map]; omega, i_nil ⟨by simp [sizeLine], fun t ht => ?_⟩⟩
          refine NextC.mk (fresh_same ht _ _ hd) hn (by omega) ⟨same_upd (Sm.trans (fresh_same ht)) hL, upd_same, ?_⟩
          have tL : t ≠ L := ne_of_none' hd ht
          have e2 : nodeV (((sh.node x).take (n + 1)).map fun p => (p.1, ord.idxOf p.2)) = nodeV (((sh.node x).take n).map fun p => (p.1, ord.idxOf p.2)) ++ [(V.str p.1, Sum.inl (ord.idxOf p.2 : Int))] := by
            rw [List.take_succ, hpn]; unfold nodeV; rw [List.map_append, List.map_append]; rfl
          rw [e2]
          refine paired_snoc (paired_mono (fun v st ⟨b, e, q⟩ => ⟨b, e, by rw [upd_ne (fun z => by rw [z, hd] at q; cases q)]; exact fresh_same ht _ _ q⟩) prd) ⟨t, rfl, by rw [upd_ne tL]; exact upd_same⟩
        obtain ⟨S6, hd, prd⟩ := p
        rw [lvs, List.take_of_length_le (Nat.le_refl _)] at prd
        have hN6 := S6 _ _ hN'
        refine i_nil (i_app hN6 (by rw [List.length_map]; omega) ?_)
        refine ⟨nas' ++ [L], _, rfl, by rw [upd_same, List.map_append]; rfl, fun b u e => by rw [upd_ne (offN e)]; exact S6 _ _ (o4 _ _ e), fun b hb => ?_, ?_⟩
        · rcases List.mem_append.mp hb with h | h
          · exact nN b h
          · rw [List.mem_singleton] at h; subst h; exact LN
        · rw [List.take_succ, ex, List.map_append]
          exact paired_snoc (paired_mem (fun b hb node h => steps_off ⟨_, hN6⟩ (h.same S6) (nN b hb)) prs) (steps_off ⟨_, hN6⟩ ⟨_, hd, prd⟩ LN)
    · obtain ⟨nas', x4, rfl, hN', o4, nN, prs⟩ := pv
      rw [List.length_map, List.take_of_length_le (Nat.le_refl _)] at prs
      have k0' : Kp D H H' := ⟨fun b u e nb => o4 _ _ (k04.old b u e nb), by obtain ⟨x, y, z, e⟩ := k04.dk; exact ⟨x, y, z, o4 _ _ e⟩⟩
      have at' := at_.kp DA k0'
      have ha' := at'.ha
      have ho' := o4 _ _ q4
      repeat walk_at "vc"
      refine ⟨by simp [sizeLine], fun a' ha2 => ?_⟩
      generalize hE : upd H' a' _ = H7
      obtain ⟨S7, q7⟩ := upd_pair ha2 hE
      clear hE
      refine i_nil ⟨by simp [sizeLine], fun t ht => ?_⟩
      generalize hE : upd H7 t _ = H8
      obtain ⟨S8, q8⟩ := upd_pair ht hE
      clear hE
      have S78 := S7.trans S8
      exact k t o a' N nas' ord H8 (k0'.trans (Kp.of k0'.dk S78)) q8 o0 (S78 _ _ ho') od ⟨S8 _ _ q7, S78 _ _ at'.hi, S78 _ _ at'.ho, S78 _ _ hN', paired_mono (fun _ _ h => h.same S78) prs⟩
end
set_option Elab.async false
set_option linter.all false
set_option maxRecDepth 100000
set_option maxHeartbeats 4000000

noncomputable def chrs (y : Str) (pl : List Nat) : List Str := pl.map fun i => ⟨#[y.cps.getD i 0]⟩
theorem join_pick (y : Str) (pl : List Nat) : Txt.join Str.empty (chrs y pl) = pick y pl ∧ ((chrs y pl).map (·.length)).sum = pl.length := by
  have e1 : ((chrs y pl).map (·.cps.toList)).flatten = pl.map fun i => y.cps.getD i 0 := by
    unfold chrs
    induction pl with
    | nil => rfl
    | cons i pl ih => rw [List.map_cons, List.map_cons, List.flatten_cons, ih]; rfl
  refine ⟨?_, ?_⟩
  · have e2 := glued_nil (chrs y pl)
    rw [e1] at e2
    unfold pick
    rw [← e2]
  · unfold chrs
    induction pl with
    | nil => rfl
    | cons i pl ih =>
      have e3 := ih (by unfold chrs; rw [List.map_map]; clear ih e1; induction pl with | nil => rfl | cons j pl ih => rw [List.map_cons, List.flatten_cons, ih]; rfl)
      rw [List.map_cons, List.map_cons, List.sum_cons, e3, List.length_cons]
      show 1 + _ = _
      omega
noncomputable def rewd (s : Sh) (ins' outs' : List Str) : Sh := ⟨ins', outs', pick s.z ((ins' ++ outs').map s.ws.idxOf), s.nodes⟩
theorem rewd_rew {s : Sh} {ins' outs' : List Str} (h1 : ins'.Perm s.ins) (h2 : outs'.Perm s.outs) : Rew s (rewd s ins' outs') := ⟨rfl, h1.append h2, rfl⟩
noncomputable def spRew : Sp := fun vs H Q _ => ∃ (D : Dk) (a li lo ln : Addr) (nas : List Addr) (s : Sh), vs = [.ref D.d, .ref a] ∧ D.At H ∧ ShAt H a li lo ln nas s ∧ ShOk s ∧
  ∀ (t pl a' li' lo' : Addr) (ins' outs' : List Str) H', Kp D H H' → H' t = some (.tup [.ref pl, .ref a']) → H pl = none → H' pl = some (.lst (((ins' ++ outs').map s.ws.idxOf).map natV)) → ins'.Perm s.ins → outs'.Perm s.outs → ShAt H' a' li' lo' ln nas (rewd s ins' outs') → Q (.ref t) H'
noncomputable def spPick : Sp := fun vs H Q _ => ∃ (x : V) (pl : Addr) (n : Nat) (is : List Nat), vs = [x, .ref pl] ∧ (x = .non ∨ ∃ y, x = .str y ∧ StOk n y ∧ n ≤ 11 ∧ ∀ i ∈ is, i < n) ∧ H pl = some (.lst (is.map natV)) ∧ is.length ≤ 11 ∧ ∀ H', Same H H' → Q (pickV is x) H'
section
variable {P : Program} {w : World} {K : PySem.W.Frag} {mg : Str → Option Value} {base : Heap} {TT : Addr}
theorem sc_law_picked : FnScope ["signs", "places"] ["signs", "places"] (defScope (top 38)) := ⟨rfl, rfl, rfl, by decide +kernel, rfl, by decide +kernel, by decide +kernel⟩
theorem ok_picked {f : Addr} {fd : FuncData} (Fu : Fun K "_law_picked" "_law_picked" (top 38) f fd) (T : Txt K mg TT) : FnOk P w K mg base CX0 1 f fd ["signs", "places"] spPick := by
  have S := sc_law_picked
  refine Fu.ok S (fun vs H Q E h => ?_) (fun cdv A outer s H vs Q E hr h => ?_)
  · obtain ⟨x, pl, n, is, rfl, _⟩ := h
    rfl
  · obtain ⟨x, pl, n, is, rfl, hx, hpl, lis, k⟩ := h
    refine' ⟨?_, ?bb, ?_⟩
    case bb =>
      refine' pss_cons ?s1 ?r1
      case s1 =>
        with_reducible refine' ps_if ?c2 ?a2 ?o2
        case c2 => exact (pt_cmpR op_isN (pv 0) pe_non rfl)
        case a2 =>
          with_reducible refine' pss_one ?s3
          case s3 =>
            exact (ps_ret pe_non)
        case o2 =>
          exact pss_nil
      case r1 =>
        with_reducible refine' pss_one ?s5
        case s5 =>
          exact (ps_ret (pe_bm PySem.F.plainAttrs_str PySem.F.slot_str_join PySem.F.type_str_join mt_join pe_str (pa_cons (pe_lc (tgs := ["at"]) (cap := [("signs", 0)]) rfl ⟨rfl, rfl, rfl, rfl, rfl, rfl⟩ (pi_list (pv 1)) (fun _ _ _ _ => (pg_name (i := 0) (show List.Nodup [("at" : Str), ("signs" : Str)] by decide +kernel) rfl (by first | exact Or.inl rfl | exact Or.inr rfl))) (fun _ _ _ _ => pifs_nil) (fun _ _ _ _ => (pe_ix ix_str (pv 1) (pv 0) (fun _ _ => rfl)))) pa_nil)))
    try dsimp only [cxOf, Cx.nox, Cx.wish]
    rw [show L2.start ["signs", "places"] [x, V.ref pl] = [some x, some (.ref pl)] from rfl]
    have big : 1000 < sizeLine := by decide
    rcases hx with rfl | ⟨y, rfl, st, n11, hi⟩
    · repeat walk_at "vc"
      refine ⟨rfl, _, rfl, ?_⟩
      refine ifT rfl ?_
      repeat walk_at "vc"
      exact k H (Same.refl _)
    · repeat walk_at "vc"
      refine ⟨rfl, _, rfl, ?_⟩
      refine ifF (decide_eq_false (fun z => nomatch z)) ?_
      repeat walk_at "vc"
      refine ⟨i_tyS, ?_⟩
      repeat walk_at "vc"
      refine i_comp (s_list (i_var rfl ⟨pl, rfl, ⟨_, SqL.of hpl⟩, fun L hL => ?_⟩))
      refine comp_list (xs := is.map natV) (fun m H' ys => Same H H' ∧ H' L = some (.lst ys) ∧ ys = (chrs y (is.take m)).map V.str) ⟨fresh_same hL, upd_same, by simp [chrs]⟩ (fun m H' ys p => ⟨p.2.1, SqL.of (p.1 _ _ hpl)⟩) (fun m v H' ys e p => ?_) (fun H' ys p => ?_)
      · obtain ⟨Sm, hd, rfl⟩ := p
        have hm : m < is.length := by have := (List.getElem?_eq_some_iff.mp e).1; rwa [List.length_map] at this
        rw [List.getElem?_map, List.getElem?_eq_getElem hm] at e
        cases e
        have hi' := hi _ (List.getElem_mem hm)
        have hl := st.len
        refine s_name ⟨by repeat' (first | exact trivial | refine ⟨rfl, ?_⟩), i_yes (iteT ?_)⟩
        refine i_op (i_var rfl (i_var rfl (i_ixS (by show y.cps.size ≤ _; omega) (at_sign st hi') ?_)))
        refine NextC.mk hd (by rw [List.length_map]; exact hm) (by unfold chrs; rw [List.length_map, List.length_map, List.length_take]; omega) ⟨same_upd Sm hL, upd_same, ?_⟩
        unfold chrs
        rw [List.take_succ, List.getElem?_eq_getElem hm, List.map_append, List.map_append]; rfl
      · obtain ⟨Sm, hd, rfl⟩ := p
        rw [List.length_map, List.take_of_length_le (Nat.le_refl _)] at hd
        obtain ⟨j1, j2⟩ := join_pick y is
        refine i_nil (i_join hd (by rw [j2, show (Str.ofString "").length = 0 from by decide]; omega) ?_)
        have e : Txt.join (Str.ofString "") (chrs y is) = pick y is := j1
        rw [e]
        exact k H' Sm
theorem sc_law_rewired : FnScope ["store", "sheet", "inputs", "outputs", "names", "places"] ["store", "sheet"] (defScope (top 37)) := ⟨rfl, rfl, rfl, by decide +kernel, rfl, by decide +kernel, by decide +kernel⟩
theorem ok_rew {f : Addr} {fd : FuncData} (Fu : Fun K "_law_rewired" "_law_rewired" (top 37) f fd) (T : Txt K mg TT) (f_law_shuffled : Fn P w K mg base "_law_shuffled" ["store", "some"] 2 spShuf) : FnOk P w K mg base CX0 3 f fd ["store", "sheet"] spRew := by
  have S := sc_law_rewired
  refine Fu.ok S (fun vs H Q E h => ?_) (fun cdv A outer s H vs Q E hr h => ?_)
  · obtain ⟨D, a, li, lo, ln, nas, sh, rfl, _⟩ := h
    rfl
  · obtain ⟨D, a, li, lo, ln, nas, sh, rfl, DA, at_, ok, k⟩ := h
    refine' ⟨?_, ?bb, ?_⟩
    case bb =>
      refine' pss_cons ?s1 ?r1
      case s1 =>
        refine' ps_set (i := 2) ?n ?r ?l ?e ?s ?f
        case n => exact S.nd
        case r => rfl
        case l => first | exact Or.inl rfl | exact Or.inr rfl
        case s => rfl
        case f => first | exact Or.inl rfl | exact Or.inr rfl
        case e => exact (pe_fn f_law_shuffled (hr.mono (by first | decide | omega)) (by rfl) (pa_cons (pv 0) (pa_cons (pe_ix ix_tup (pv 1) pe_int (fun _ _ => rfl)) pa_nil) se_name))
      case r1 =>
        with_reducible refine' pss_cons ?s3 ?r3
        case s3 =>
          refine' ps_set (i := 3) ?n ?r ?l ?e ?s ?f
          case n => exact S.nd
          case r => rfl
          case l => first | exact Or.inl rfl | exact Or.inr rfl
          case s => rfl
          case f => first | exact Or.inl rfl | exact Or.inr rfl
          case e => exact (pe_fn f_law_shuffled (hr.mono (by first | decide | omega)) (by rfl) (pa_cons (pv 0) (pa_cons (pe_ix ix_tup (pv 1) pe_int (fun _ _ => rfl)) pa_nil) se_name))
        case r3 =>
          with_reducible refine' pss_cons ?s5 ?r5
          case s5 =>
            refine' ps_set (i := 4) ?n ?r ?l ?e ?s ?f
            case n => exact S.nd
            case r => rfl
            case l => first | exact Or.inl rfl | exact Or.inr rfl
            case s => rfl
            case f => first | exact Or.inl rfl | exact Or.inr rfl
            case e => exact (pe_op op_cat (pe_ix ix_tup (pv 1) pe_int (fun _ _ => rfl)) (pe_ix ix_tup (pv 1) pe_int (fun _ _ => rfl)))
          case r5 =>
            with_reducible refine' pss_cons ?s7 ?r7
            case s7 =>
              exact (ps_lc (j := 5) S.nd rfl (by first | exact Or.inl rfl | exact Or.inr rfl) (tgs := ["name"]) (cap := [("names", 4)]) rfl ⟨rfl, rfl, rfl, rfl, rfl, rfl⟩ (pi_list (pe_op op_cat (pv 2) (pv 3))) (fun _ _ _ _ => (pg_name (i := 0) (show List.Nodup [("name" : Str), ("names" : Str)] by decide +kernel) rfl (by first | exact Or.inl rfl | exact Or.inr rfl))) (fun _ _ _ _ => pifs_nil) (fun _ _ _ _ => (pe_bmK (K := K) rfl PySem.F.plainAttrs_list PySem.F.slot_list_index PySem.F.type_list_index mt_index (pv 1) (pa_cons (pv 0) pa_nil se_name))))
            case r7 =>
              with_reducible refine' pss_one ?s9
              case s9 =>
                with_reducible refine' ps_ret ?e
                case e =>
                  with_reducible refine' pe_tup ?a11
                  case a11 =>
                    with_reducible refine' pa_cons ?e12 ?s12 se_name
                    case e12 =>
                      exact (pv 5)
                    case s12 =>
                      with_reducible refine' pa_cons ?e14 ?s14 se_tup
                      case e14 =>
                        with_reducible refine' pe_tup ?a15
                        case a15 =>
                          with_reducible refine' pa_cons ?e16 ?s16 se_name
                          case e16 =>
                            exact (pv 2)
                          case s16 =>
                            with_reducible refine' pa_cons ?e18 ?s18 se_name
                            case e18 =>
                              exact (pv 3)
                            case s18 =>
                              with_reducible refine' pa_cons ?e20 ?s20 se_call
                              case e20 =>
                                exact (pe_bm PySem.F.plainAttrs_str PySem.F.slot_str_join PySem.F.type_str_join mt_join pe_str (pa_cons (pe_lc (tgs := ["at"]) (cap := [("sheet", 1)]) rfl ⟨rfl, rfl, rfl, rfl, rfl, rfl⟩ (pi_list (pv 5)) (fun _ _ _ _ => (pg_name (i := 0) (show List.Nodup [("at" : Str), ("sheet" : Str)] by decide +kernel) rfl (by first | exact Or.inl rfl | exact Or.inr rfl))) (fun _ _ _ _ => pifs_nil) (fun _ _ _ _ => (pe_ix ix_str (pe_ix (ix_tupK (K := K) rfl) (pv 1) pe_int (fun _ _ => rfl)) (pv 0) (fun _ _ => rfl)))) pa_nil))
                              case s20 =>
                                with_reducible refine' pa_cons ?e22 ?s22 se_sub
                                case e22 =>
                                  exact (pe_ix ix_tup (pv 1) pe_int (fun _ _ => rfl))
                                case s22 =>
                                  exact pa_nil
                      case s14 =>
                        exact pa_nil
    try dsimp only [cxOf, Cx.nox, Cx.wish]
    rw [show L2.start ["store", "sheet", "inputs", "outputs", "names", "places"] [V.ref D.d, V.ref a] = [some (.ref D.d), some (.ref a), none, none, none, none] from rfl]
    have big : 1000 < sizeLine := by decide
    have w11 := ok.w11
    have lw : sh.ins.length + sh.outs.length = sh.ws.length := by unfold Sh.ws; rw [List.length_append]
    have ha := at_.ha
    repeat walk_at "vc"
    refine ⟨D, li, _, rfl, DA, at_.hi, by rw [List.length_map]; omega, fun li' ys1 H1 li0 q1 pm1 k1 => ?_⟩
    obtain ⟨ins', pmi, rfl⟩ := perm_map_of pm1 (f := V.str) _ rfl
    have at1 := at_.kp DA k1
    have ha1 := at1.ha
    repeat walk_at "vc"
    refine ⟨D, lo, _, rfl, k1.dk, at1.ho, by rw [List.length_map]; omega, fun lo' ys2 H2 lo0 q2 pm2 k2 => ?_⟩
    obtain ⟨outs', pmo, rfl⟩ := perm_map_of pm2 (f := V.str) _ rfl
    have k02 := k1.trans k2
    have at2 := at_.kp DA k02
    have ha2 := at2.ha
    have q12 := k2.strs k1.dk q1
    have li_ := pmi.length_eq
    have lo_ := pmo.length_eq
    repeat walk_at "vc"
    refine i_cat at2.hi at2.ho (by rw [List.length_map, List.length_map]; omega) fun nm hnm => ?_
    rw [← List.map_append]
    generalize hE : upd H2 nm _ = H3
    obtain ⟨S3, q3⟩ := upd_pair hnm hE
    clear hE
    have q3 : H3 nm = some (.lst (sh.ws.map V.str)) := q3
    have k03 := k02.trans (Kp.of k02.dk S3)
    have q13 := S3 _ _ q12
    have q23 := S3 _ _ q2
    with_reducible refine s_name ?_
    with_reducible refine s_seq ?_
    refine s_asg (i_comp (s_list (i_op (i_var rfl (i_var rfl (i_cat q13 q23 (by rw [List.length_map, List.length_map]; omega) fun jn hjn => ?_))))))
    rw [← List.map_append]
    generalize hE : upd H3 jn _ = H4
    obtain ⟨S4, q4⟩ := upd_pair hjn hE
    clear hE
    have k04 := k03.trans (Kp.of k03.dk S4)
    have q34 := S4 _ _ q3
    refine ⟨jn, rfl, ⟨_, SqL.of q4⟩, fun L hL => ?_⟩
    have L0 : H L = none := k04.free hL
    have mem : ∀ x ∈ ins' ++ outs', x ∈ sh.ws := fun x hx => (pmi.append pmo).mem_iff.mp hx
    refine comp_list (xs := (ins' ++ outs').map V.str) (fun m H' ys => Same H4 H' ∧ H' L = some (.lst ys) ∧ ys = (((ins' ++ outs').take m).map sh.ws.idxOf).map natV) ⟨fresh_same hL, upd_same, by simp⟩ (fun m H' ys p => ⟨p.2.1, SqL.of (p.1 _ _ q4)⟩) (fun m v H' ys e p => ?_) (fun H5 ys p => ?_)
    · obtain ⟨Sm, hd, rfl⟩ := p
      have hm : m < (ins' ++ outs').length := by have := (List.getElem?_eq_some_iff.mp e).1; rwa [List.length_map] at this
      rw [List.getElem?_map, List.getElem?_eq_getElem hm] at e
      cases e
      have hx := mem _ (List.getElem_mem hm)
      refine s_name ⟨by repeat' (first | exact trivial | refine ⟨rfl, ?_⟩), i_yes (iteT ?_)⟩
      refine i_bm (i_var rfl ⟨i_tyL (Sm _ _ q34), i_cons (i_var rfl (i_nil ?_))⟩)
      refine ⟨nm, sh.ws, _, sh.ws.idxOf (ins' ++ outs')[m], rfl, rfl, Sm _ _ q34, idx_at hx, idx_first, by omega, ?_⟩
      refine NextC.mk hd (by rw [List.length_map]; exact hm) (by rw [List.length_map, List.length_map, List.length_take]; rw [List.length_append] at hm; omega) ⟨same_upd Sm hL, upd_same, ?_⟩
      rw [List.take_succ, List.getElem?_eq_getElem hm, List.map_append, List.map_append]; rfl
    obtain ⟨S5, q5, rfl⟩ := p
    rw [List.length_map, List.take_of_length_le (Nat.le_refl _)] at q5
    have k05 := k04.trans (Kp.of k04.dk S5)
    have at5 := at_.kp DA k05
    have ha5 := at5.ha
    have q15 := S5 _ _ (S4 _ _ q13)
    have q25 := S5 _ _ (S4 _ _ q23)
    generalize hpl : (ins' ++ outs').map sh.ws.idxOf = pl at *
    have lpl : pl.length = sh.ws.length := by rw [← hpl, List.length_map, List.length_append]; omega
    have ipl : ∀ i ∈ pl, i < sh.ws.length := fun i hi => by
      rw [← hpl] at hi
      obtain ⟨x, hx, rfl⟩ := List.mem_map.mp hi
      exact List.idxOf_lt_length_of_mem (mem x hx)
    have st := ok.st
    have hzl := st.len
    with_reducible refine s_name ?_
    refine s_ret (i_tup (i_cons (i_var rfl (i_cons (i_tup (i_cons (i_var rfl (i_cons (i_var rfl (i_cons ?_))))))))))
    refine i_bm (i_c ⟨i_tyS, i_cons ?_⟩)
    refine i_comp (s_list (i_var rfl ⟨L, rfl, ⟨_, SqL.of q5⟩, fun M hM => ?_⟩))
    refine comp_list (xs := pl.map natV) (fun m H' ys => Same H5 H' ∧ H' M = some (.lst ys) ∧ ys = (chrs sh.z (pl.take m)).map V.str) ⟨fresh_same hM, upd_same, by simp [chrs]⟩ (fun m H' ys p => ⟨p.2.1, SqL.of (p.1 _ _ q5)⟩) (fun m v H' ys e p => ?_) (fun H6 ys p => ?_)
    · obtain ⟨Sm, hd, rfl⟩ := p
      have hm : m < pl.length := by have := (List.getElem?_eq_some_iff.mp e).1; rwa [List.length_map] at this
      rw [List.getElem?_map, List.getElem?_eq_getElem hm] at e
      cases e
      have hi' := ipl _ (List.getElem_mem hm)
      refine s_name ⟨by repeat' (first | exact trivial | refine ⟨rfl, ?_⟩), i_yes (iteT ?_)⟩
      refine i_op (i_op (i_var rfl (i_c (i_ixT (Sm _ _ ha5) rfl (i_var rfl (i_ixS (by show sh.z.cps.size ≤ _; omega) (at_sign st hi') ?_))))))
      refine NextC.mk hd (by rw [List.length_map]; exact hm) (by unfold chrs; rw [List.length_map, List.length_map, List.length_take]; omega) ⟨same_upd Sm hM, upd_same, ?_⟩
      unfold chrs
      rw [List.take_succ, List.getElem?_eq_getElem hm, List.map_append, List.map_append]; rfl
    obtain ⟨S6, hd, rfl⟩ := p
    rw [List.length_map, List.take_of_length_le (Nat.le_refl _)] at hd
    obtain ⟨j1, j2⟩ := join_pick sh.z pl
    refine i_nil (i_join hd (by rw [j2, show (Str.ofString "").length = 0 from by decide]; omega) ?_)
    have e : Txt.join (Str.ofString "") (chrs sh.z pl) = pick sh.z pl := j1
    rw [e]
    have k06 := k05.trans (Kp.of k05.dk S6)
    have at6 := at5.same S6
    have ha6 := at6.ha
    repeat walk_at "vc"
    refine ⟨by simp [sizeLine], fun a' ha2 => ?_⟩
    generalize hE : upd H6 a' _ = H7
    obtain ⟨S7, q7⟩ := upd_pair ha2 hE
    clear hE
    refine i_nil ⟨by simp [sizeLine], fun t ht => ?_⟩
    generalize hE : upd H7 t _ = H8
    obtain ⟨S8, q8⟩ := upd_pair ht hE
    clear hE
    have S78 := S7.trans S8
    have S58 := S6.trans S78
    refine k t L a' li' lo' ins' outs' H8 (k06.trans (Kp.of k06.dk S78)) q8 L0 (by rw [hpl]; exact S58 _ _ q5) pmi pmo ⟨?_, S58 _ _ q15, S58 _ _ q25, S78 _ _ at6.hn, paired_mono (fun _ _ h => h.same S78) at6.nodes⟩
    unfold rewd
    rw [hpl]
    exact S8 _ _ q7
end
set_option Elab.async false
set_option linter.all false
set_option maxRecDepth 100000
set_option maxHeartbeats 4000000

theorem perm_paired {α β : Type} {F : α → β → Prop} {ys xs : List α} (h : ys.Perm xs) : ∀ {zs : List β}, Paired F xs zs → ∃ zs' : List β, zs'.Perm zs ∧ Paired F ys zs' := by
  induction h with
  | nil => intro zs p; cases p; exact ⟨[], .refl _, .nil⟩
  | cons x _ ih =>
    intro zs p
    cases p with
    | cons a t =>
      obtain ⟨zs', h1, h2⟩ := ih t
      exact ⟨_ :: zs', h1.cons _, .cons a h2⟩
  | swap x y l =>
    intro zs p
    cases p with
    | cons a t =>
      cases t with
      | cons b t => exact ⟨_ :: _ :: _, .swap _ _ _, .cons b (.cons a t)⟩
  | trans _ _ ih1 ih2 =>
    intro zs p
    obtain ⟨z2, h1, h2⟩ := ih2 p
    obtain ⟨z3, h3, h4⟩ := ih1 h2
    exact ⟨z3, h3.trans h1, h4⟩
theorem steps_perm {H : Hp} {b : Addr} {vs ys : List V} {node : List (Str × Nat)} (pv : Paired (fun v (s : V × Key) => ∃ b, v = .ref b ∧ H b = some (.tup [s.1, kV s.2])) vs (nodeV node)) (pm : ys.Perm vs) (hb : H b = some (.lst ys)) : ∃ node', node'.Perm node ∧ StepsAt H b (nodeV node') := by
  obtain ⟨zs, h1, h2⟩ := perm_paired pm pv
  obtain ⟨node', h3, e⟩ := perm_map_of (f := fun (p : Str × Nat) => ((V.str p.1, Sum.inl (p.2 : Int)) : V × Key)) h1 node rfl
  exact ⟨node', h3, ys, hb, by rw [e] at h2; exact h2⟩
section
variable {T : Addr} {D : Dk} {H H1 : Hp}
theorem Ky.lst (tb : TbAt T lmRows H) (k : Ky T D H H1) {b : Addr} {xs : List V} (e : H b = some (.lst xs)) (n : ¬ D.own b) : H1 b = some (.lst xs) := k.old b _ e (tb_ne tb e fun _ z => nomatch z) n
theorem Ky.tup (tb : TbAt T lmRows H) (DA : D.At H) (k : Ky T D H H1) {b : Addr} {xs : List V} (e : H b = some (.tup xs)) : H1 b = some (.tup xs) := k.old b _ e (tb_ne tb e fun _ z => nomatch z) (notOwn DA e (fun _ z => nomatch z))
end
theorem s_zipL {K : PySem.W.Frag} {ta : TA} {σ : St} {H : Hp} {R : It → Hp → Prop} (q : ta σ H fun vs H1 => ∃ a b, vs = [.ref a, .ref b] ∧ (∃ xs, SqL K H1 a xs) ∧ (∃ ys, SqL K H1 b ys) ∧ R (Itzl K a b) H1) : iZipL K ta σ H R := q
noncomputable def Like (H : Hp) (s : Sh) (a : Addr) : Prop := ∃ (li lo ln : Addr) (nas : List Addr) (s' : Sh), ShAt H a li lo ln nas s' ∧ Frm s' ∧ ((∃ lam, Lab s' lam) ↔ ∃ lam, Lab s lam)
section
variable {P : Program} {w : World} {K : PySem.W.Frag} {mg : Str → Option Value} {base : Heap} {TT : Addr}
theorem sc_law : FnScope ["script", "at", "store", "sheet", "here", "good", "order", "numbered", "places", "rewired", "others", "one", "told", "bare"] ["script"] (defScope (top 39)) := ⟨rfl, rfl, rfl, by decide +kernel, rfl, by decide +kernel, by decide +kernel⟩
theorem ok_law31 {TL : Addr} {f : Addr} {fd : FuncData} (Fu : Fun K "law" "law" (top 39) f fd) (T : Txt K mg TT) (f_law_cell : Fn P w K mg base "_law_cell" ["script", "k"] 1 (spCell K)) (f_law_store : Fn P w K mg base "_law_store" ["cell"] 1 spStore) (f_law_take : Fn P w K mg base "_law_take" ["store", "many"] 1 spDraw) (f_law_sheet : Fn P w K mg base "_law_sheet" ["store", "most"] 3 spSheet)
    (f_law_shuffled : Fn P w K mg base "_law_shuffled" ["store", "some"] 2 spShuf) (f_law_numbered : Fn P w K mg base "_law_numbered" ["store", "sheet"] 3 spNumb) (f_law_rewired : Fn P w K mg base "_law_rewired" ["store", "sheet"] 3 spRew) (f_law_picked : Fn P w K mg base "_law_picked" ["signs", "places"] 1 spPick) (f_is_sheet : Fn P w K mg base "is_sheet" ["thing"] 6 (spIsSh TL)) (f_signs_of : Fn P w K mg base "signs_of" ["sheet"] 4 (spSigns TL)) : FnOk P w K mg base CX0 7 f fd ["script"] (spLaw K TL) := by
  have S := sc_law
  refine Fu.ok S (fun vs H Q E h => ?_) (fun cdv A outer s H vs Q E hr h => ?_)
  · obtain ⟨a, ns, rfl, _⟩ := h
    rfl
  · obtain ⟨sc, cells, rfl, hS, hlen, tb, k⟩ := h
    refine' ⟨?_, ?bb, ?_⟩
    case bb =>
      refine' pss_cons ?s1 ?r1
      case s1 =>
        refine' ps_for PassesOwn.never rfl ?i2 ?g2 ?b2 ?h2
        case h2 => intro _; rfl
        case i2 => exact (pi_range1 (by rfl) T.n_range (pa_cons (pe_callB (call_min2 rfl) (by rfl) T.n_min PyProof.Rows.boot_min (pa_cons (pe_callB (call_max2 rfl) (by rfl) T.n_max PyProof.Rows.boot_max (pa_cons (pe_callB call_len_seq (by rfl) T.n_len PySem.boot_len (pa_cons (pv 0) pa_nil se_name)) (pa_cons pe_int pa_nil se_con) se_call)) (pa_cons pe_int pa_nil se_con) se_call)) pa_nil se_call))
        case g2 => exact (pg_name (i := 1) S.nd rfl (by first | exact Or.inl rfl | exact Or.inr rfl))
        case b2 =>
          with_reducible refine' pss_cons ?s3 ?r3
          case s3 =>
            refine' ps_set (i := 2) ?n ?r ?l ?e ?s ?f
            case n => exact S.nd
            case r => rfl
            case l => first | exact Or.inl rfl | exact Or.inr rfl
            case s => rfl
            case f => first | exact Or.inl rfl | exact Or.inr rfl
            case e => exact (pe_fn f_law_store (hr.mono (by first | decide | omega)) (by rfl) (pa_cons (pe_fn f_law_cell (hr.mono (by first | decide | omega)) (by rfl) (pa_cons (pv 0) (pa_cons (pv 1) pa_nil se_name) se_name)) pa_nil se_call))
          case r3 =>
            with_reducible refine' pss_cons ?s5 ?r5
            case s5 =>
              refine' ps_set (i := 3) ?n ?r ?l ?e ?s ?f
              case n => exact S.nd
              case r => rfl
              case l => first | exact Or.inl rfl | exact Or.inr rfl
              case s => rfl
              case f => first | exact Or.inl rfl | exact Or.inr rfl
              case e => exact (pe_fn f_law_sheet (hr.mono (by first | decide | omega)) (by rfl) (pa_cons (pv 2) (pa_cons pe_int pa_nil se_con) se_name))
            case r5 =>
              with_reducible refine' pss_cons ?s7 ?r7
              case s7 =>
                refine' ps_set (i := 4) ?n ?r ?l ?e ?s ?f
                case n => exact S.nd
                case r => rfl
                case l => first | exact Or.inl rfl | exact Or.inr rfl
                case s => rfl
                case f => first | exact Or.inl rfl | exact Or.inr rfl
                case e => exact (pe_fn f_law_take (hr.mono (by first | decide | omega)) (by rfl) (pa_cons (pv 2) (pa_cons (pe_callB call_len_seq (by rfl) T.n_len PySem.boot_len (pa_cons (pe_ix ix_tup (pv 3) pe_int (fun _ _ => rfl)) pa_nil)) pa_nil se_call) se_name))
              case r7 =>
                with_reducible refine' pss_cons ?s9 ?r9
                case s9 =>
                  with_reducible refine' ps_if ?c10 ?a10 ?o10
                  case c10 => exact (PW.pt (pw_and (pt_cmpR (op_neL hr.units) (pe_ix ix_list (pe_ix ix_tup (pv 3) pe_int (fun _ _ => rfl)) (pv 4) (fun _ _ => rfl)) (pe_lst pa_nil) (nomark _)) (pw_and1 (pt_cmpR op_eq (pe_fn f_law_take (hr.mono (by first | decide | omega)) (by rfl) (pa_cons (pv 2) (pa_cons pe_int pa_nil se_con) se_name)) pe_int (nomark _)))))
                  case a10 =>
                    with_reducible refine' pss_one ?s11
                    case s11 =>
                      exact (ps_asg (pe_tup (pa_cons (pe_ix ix_tup (pe_ix ix_list (pe_ix ix_list (pe_ix ix_tup (pv 3) pe_int (fun _ _ => rfl)) (pv 4) (fun _ _ => rfl)) pe_int (fun _ _ => rfl)) pe_int (fun _ _ => rfl)) (pa_cons (pe_fn f_law_take (hr.mono (by first | decide | omega)) (by rfl) (pa_cons (pv 2) (pa_cons (pe_callB call_len_seq (by rfl) T.n_len PySem.boot_len (pa_cons (pe_ix ix_tup (pv 3) pe_int (fun _ _ => rfl)) pa_nil)) pa_nil se_call) se_name)) pa_nil se_call))) (pg_sub (pe_ix ix_list (pe_ix ix_tup (pv 3) pe_int (fun _ _ => rfl)) (pv 4) (fun _ _ => rfl)) pe_int set_list))
                  case o10 =>
                    exact pss_nil
                case r9 =>
                  with_reducible refine' pss_cons ?s13 ?r13
                  case s13 =>
                    refine' ps_set (i := 5) ?n ?r ?l ?e ?s ?f
                    case n => exact S.nd
                    case r => rfl
                    case l => first | exact Or.inl rfl | exact Or.inr rfl
                    case s => rfl
                    case f => first | exact Or.inl rfl | exact Or.inr rfl
                    case e => exact (pe_fn f_is_sheet (hr.mono (by first | decide | omega)) (by rfl) (pa_cons (pv 3) pa_nil se_name))
                  case r13 =>
                    with_reducible refine' pss_cons ?s15 ?r15
                    case s15 =>
                      exact (ps_asg (pe_fn f_law_numbered (hr.mono (by first | decide | omega)) (by rfl) (pa_cons (pv 2) (pa_cons (pv 3) pa_nil se_name) se_name)) (pg_tup rfl (pgs_cons (pg_name (i := 6) S.nd rfl (by first | exact Or.inl rfl | exact Or.inr rfl)) (pgs_cons (pg_name (i := 7) S.nd rfl (by first | exact Or.inl rfl | exact Or.inr rfl)) pgs_nil))))
                    case r15 =>
                      with_reducible refine' pss_cons ?s17 ?r17
                      case s17 =>
                        exact (ps_asg (pe_fn f_law_rewired (hr.mono (by first | decide | omega)) (by rfl) (pa_cons (pv 2) (pa_cons (pv 3) pa_nil se_name) se_name)) (pg_tup rfl (pgs_cons (pg_name (i := 8) S.nd rfl (by first | exact Or.inl rfl | exact Or.inr rfl)) (pgs_cons (pg_name (i := 9) S.nd rfl (by first | exact Or.inl rfl | exact Or.inr rfl)) pgs_nil))))
                      case r17 =>
                        with_reducible refine' pss_cons ?s19 ?r19
                        case s19 =>
                          refine' ps_set (i := 10) ?n ?r ?l ?e ?s ?f
                          case n => exact S.nd
                          case r => rfl
                          case l => first | exact Or.inl rfl | exact Or.inr rfl
                          case s => rfl
                          case f => first | exact Or.inl rfl | exact Or.inr rfl
                          case e =>
                            with_reducible refine' pe_tup ?a21
                            case a21 =>
                              with_reducible refine' pa_cons ?e22 ?s22 se_sub
                              case e22 =>
                                exact (pe_ix ix_tup (pv 3) pe_int (fun _ _ => rfl))
                              case s22 =>
                                with_reducible refine' pa_cons ?e24 ?s24 se_sub
                                case e24 =>
                                  exact (pe_ix ix_tup (pv 3) pe_int (fun _ _ => rfl))
                                case s24 =>
                                  with_reducible refine' pa_cons ?e26 ?s26 se_sub
                                  case e26 =>
                                    exact (pe_ix ix_tup (pv 3) pe_int (fun _ _ => rfl))
                                  case s26 =>
                                    with_reducible refine' pa_cons ?e28 ?s28 se_lc
                                    case e28 =>
                                      exact (pe_lc (tgs := ["node"]) (cap := [("store", 2)]) rfl ⟨rfl, rfl, rfl, rfl, rfl, rfl⟩ (pi_list (pe_ix ix_tup (pv 3) pe_int (fun _ _ => rfl))) (fun _ _ _ _ => (pg_name (i := 0) (show List.Nodup [("node" : Str), ("store" : Str)] by decide +kernel) rfl (by first | exact Or.inl rfl | exact Or.inr rfl))) (fun _ _ _ _ => pifs_nil) (fun _ _ _ _ => (pe_fn f_law_shuffled (hr.mono (by first | decide | omega)) (by rfl) (pa_cons (pv 1) (pa_cons (pv 0) pa_nil se_name) se_name))))
                                    case s28 =>
                                      exact pa_nil
                        case r19 =>
                          with_reducible refine' pss_cons ?s30 ?r30
                          case s30 =>
                            refine' ps_for PassesOwn.never rfl ?i31 ?g31 ?b31 ?h31
                            case h31 => intro _; rfl
                            case i31 => exact (pi_list (pe_lst (pa_cons (pv 7) (pa_cons (pv 9) (pa_cons (pv 10) pa_nil se_name) se_name) se_name)))
                            case g31 => exact (pg_name (i := 11) S.nd rfl (by first | exact Or.inl rfl | exact Or.inr rfl))
                            case b31 =>
                              with_reducible refine' pss_one ?s32
                              case s32 =>
                                with_reducible refine' ps_if ?c33 ?a33 ?o33
                                case c33 => exact (pt_cmpR op_ne (pe_fn f_is_sheet (hr.mono (by first | decide | omega)) (by rfl) (pa_cons (pv 11) pa_nil se_name)) (pv 5) (nomark _))
                                case a33 =>
                                  with_reducible refine' pss_one ?s34
                                  case s34 =>
                                    exact (ps_ret pe_bl)
                                case o33 =>
                                  exact pss_nil
                          case r30 =>
                            with_reducible refine' pss_one ?s36
                            case s36 =>
                              with_reducible refine' ps_if ?c37 ?a37 ?o37
                              case c37 => exact (pt_val (pv 5))
                              case a37 =>
                                with_reducible refine' pss_cons ?s38 ?r38
                                case s38 =>
                                  refine' ps_set (i := 12) ?n ?r ?l ?e ?s ?f
                                  case n => exact S.nd
                                  case r => rfl
                                  case l => first | exact Or.inl rfl | exact Or.inr rfl
                                  case s => rfl
                                  case f => first | exact Or.inl rfl | exact Or.inr rfl
                                  case e => exact (pe_fn f_signs_of (hr.mono (by first | decide | omega)) (by rfl) (pa_cons (pv 3) pa_nil se_name))
                                case r38 =>
                                  with_reducible refine' pss_cons ?s40 ?r40
                                  case s40 =>
                                    with_reducible refine' ps_if ?c41 ?a41 ?o41
                                    case c41 => exact (PW.pt (pw_or (pt_cmpR (op_neL hr.units) (pe_fn f_signs_of (hr.mono (by first | decide | omega)) (by rfl) (pa_cons (pv 7) pa_nil se_name)) (pe_lc (tgs := ["old"]) (cap := [("told", 12)]) rfl ⟨rfl, rfl, rfl, rfl, rfl, rfl⟩ (pi_list (pv 6)) (fun _ _ _ _ => (pg_name (i := 0) (show List.Nodup [("old" : Str), ("told" : Str)] by decide +kernel) rfl (by first | exact Or.inl rfl | exact Or.inr rfl))) (fun _ _ _ _ => pifs_nil) (fun _ _ _ _ => (pe_ix (ix_listK (K := K) rfl) (pv 1) (pv 0) (fun _ _ => rfl)))) (nomark _)) (pw_or1 (pt_cmpR (op_neL hr.units) (pe_fn f_signs_of (hr.mono (by first | decide | omega)) (by rfl) (pa_cons (pv 10) pa_nil se_name)) (pv 12) (nomark _)))))
                                    case a41 =>
                                      with_reducible refine' pss_one ?s42
                                      case s42 =>
                                        exact (ps_ret pe_bl)
                                    case o41 =>
                                      exact pss_nil
                                  case r40 =>
                                    with_reducible refine' pss_cons ?s44 ?r44
                                    case s44 =>
                                      with_reducible refine' ps_if ?c45 ?a45 ?o45
                                      case c45 => exact (pt_cmpR (op_neL hr.units) (pe_fn f_signs_of (hr.mono (by first | decide | omega)) (by rfl) (pa_cons (pv 9) pa_nil se_name)) (pe_lc (tgs := ["one"]) (cap := [("places", 8)]) rfl ⟨rfl, rfl, rfl, rfl, rfl, rfl⟩ (pi_list (pv 12)) (fun _ _ _ _ => (pg_name (i := 0) (show List.Nodup [("one" : Str), ("places" : Str)] by decide +kernel) rfl (by first | exact Or.inl rfl | exact Or.inr rfl))) (fun _ _ _ _ => pifs_nil) (fun _ _ _ _ => (pe_fn f_law_picked (hr.mono (by first | decide | omega)) (by rfl) (pa_cons (pv 0) (pa_cons (pv 1) pa_nil se_name) se_name)))) (nomark _))
                                      case a45 =>
                                        with_reducible refine' pss_one ?s46
                                        case s46 =>
                                          exact (ps_ret pe_bl)
                                      case o45 =>
                                        exact pss_nil
                                    case r44 =>
                                      with_reducible refine' pss_cons ?s48 ?r48
                                      case s48 =>
                                        exact (ps_lcC (j := 13) S.nd rfl (by first | exact Or.inl rfl | exact Or.inr rfl) (tgs := ["node", "signs"]) (cap := []) rfl ⟨rfl, by decide +kernel, rfl, rfl⟩ (pi_zipL (by rfl) T.n_zip (pa_cons (pe_ix ix_tup (pv 3) pe_int (fun _ _ => rfl)) (pa_cons (pv 12) pa_nil se_name))) (fun _ _ _ _ => (pg_tupK (K := K) (n := 2) rfl rfl (pgs_cons (pg_name (i := 0) (show List.Nodup [("node" : Str), ("signs" : Str)] by decide +kernel) rfl (by first | exact Or.inl rfl | exact Or.inr rfl)) (pgs_cons (pg_name (i := 1) (show List.Nodup [("node" : Str), ("signs" : Str)] by decide +kernel) rfl (by first | exact Or.inl rfl | exact Or.inr rfl)) pgs_nil)))) (fun _ _ _ _ => pifs_nil) (fun _ _ _ _ => (pe_lc (tgs := ["turn"]) (cap := [("signs", 1)]) rfl ⟨rfl, rfl, rfl, rfl, rfl, rfl⟩ (pi_listK (K := K) rfl (pv 0)) (fun _ _ _ _ => (pg_name (i := 0) (show List.Nodup [("turn" : Str), ("signs" : Str)] by decide +kernel) rfl (by first | exact Or.inl rfl | exact Or.inr rfl))) (fun _ _ _ _ => (pifs_one (pt_cmpR op_notN (pv 1) pe_non rfl))) (fun _ _ _ _ => (pv 0)))))
                                      case r48 =>
                                        with_reducible refine' pss_one ?s50
                                        case s50 =>
                                          with_reducible refine' ps_if ?c51 ?a51 ?o51
                                          case c51 => exact (pt_cmpR (op_neL hr.units) (pe_fn f_signs_of (hr.mono (by first | decide | omega)) (by rfl) (pa_cons (pe_tup (pa_cons (pe_ix ix_tup (pv 3) pe_int (fun _ _ => rfl)) (pa_cons (pe_ix ix_tup (pv 3) pe_int (fun _ _ => rfl)) (pa_cons (pe_ix ix_tup (pv 3) pe_int (fun _ _ => rfl)) (pa_cons (pv 13) pa_nil se_name))))) pa_nil se_tup)) (pv 12) (nomark _))
                                          case a51 =>
                                            with_reducible refine' pss_one ?s52
                                            case s52 =>
                                              exact (ps_ret pe_bl)
                                          case o51 =>
                                            exact pss_nil
                              case o37 =>
                                exact pss_nil
      case r1 =>
        with_reducible refine' pss_one ?s54
        case s54 =>
          exact (ps_ret pe_bl)
    try dsimp only [cxOf, Cx.nox, Cx.wish]
    rw [show L2.start ["script", "at", "store", "sheet", "here", "good", "order", "numbered", "places", "rewired", "others", "one", "told", "bare"] [V.ref sc] = [some (.ref sc), none, none, none, none, none, none, none, none, none, none, none, none, none] from rfl]
    have big : 1000 < sizeLine := by decide
    repeat walk_at "vc"
    refine ⟨_, _, rfl, Or.inl hS, ?_⟩
    repeat walk_at "vc"
    refine ⟨_, _, rfl, ?_⟩
    repeat walk_at "vc"
    refine ⟨_, _, rfl, ?_⟩
    rw [List.length_map]
    obtain ⟨N, hN, N12⟩ : ∃ N : Nat, (if (12 : Int) < (if (3 : Int) > (cells.length : Int) then (3 : Int) else (cells.length : Int)) then (12 : Int) else (if (3 : Int) > (cells.length : Int) then (3 : Int) else (cells.length : Int))) = (N : Int) ∧ N ≤ 12 := by
      by_cases h1 : (3 : Int) > (cells.length : Int)
      · rw [if_pos h1, if_neg (by decide)]; exact ⟨3, rfl, by omega⟩
      · rw [if_neg h1]
        by_cases h2 : (12 : Int) < (cells.length : Int)
        · rw [if_pos h2]; exact ⟨12, rfl, by omega⟩
        · rw [if_neg h2]; exact ⟨cells.length, rfl, by omega⟩
    rw [hN]
    repeat walk_at "vc"
    refine ⟨by omega, by omega, ?_⟩
    rw [Int.toNat_natCast]
    refine for_range (n := N) (fun i σ H' => (∃ x1 x2 x3 x4 x5 x6 x7 x8 x9 xa xb xc xd, σ = [some (.ref sc), x1, x2, x3, x4, x5, x6, x7, x8, x9, xa, xb, xc, xd]) ∧ SqL K H' sc (cells.map V.int) ∧ TbAt TL lmRows H') ⟨⟨_, _, _, _, _, _, _, _, _, _, _, _, _, rfl⟩, hS, tb⟩ (fun i σ H0 hi pv => ?_) (fun σ H' pv => ?_)
    · clear tb hS
      obtain ⟨⟨x1, x2, x3, x4, x5, x6, x7, x8, x9, xa, xb, xc, xd, rfl⟩, hS, tb⟩ := pv
      refine s_name ?_
      repeat walk_at "vc"
      refine ⟨sc, cells, i, by rw [Int.zero_add], hS, by omega, fun c => ?_⟩
      repeat walk_at "vc"
      refine ⟨c, rfl, fun D H1 S1 nD DA1 => ?_⟩
      have tb1 := tb_keep tb S1
      repeat walk_at "vc"
      refine ⟨D, 12, rfl, DA1, by decide, by decide, fun a li lo ln nas sh H4 k4 at4 dr nd lnn lin lon ln0 nas0 => ?_⟩
      have k14 := Ky.of_kp tb1 DA1 k4
      have fr := dr.frm
      have ok := dr.ok
      have n1 := ok.n1
      have n100 := ok.n100
      have lnas := paired_len at4.nodes
      have ha4 := at4.ha
      have hn4 := at4.hn
      repeat walk_at "vc"
      rw [List.length_map]
      refine ⟨D, _, rfl, k14.dk, by omega, by omega, fun r5 H5 r50 r51 k5 => ?_⟩
      obtain ⟨here, rfl⟩ := Int.eq_ofNat_of_zero_le r50
      have hh : here < sh.nodes.length := by omega
      have at5 := at4.kp k14.dk k5
      have ha5 := at5.ha
      have hn5 := at5.hn
      have K5 := Ky.of_kp k14.tab k14.dk k5
      have k15 := k14.trans K5
      obtain ⟨na, hna, hst⟩ := paired_get' at5.nodes (List.getElem?_eq_getElem hh)
      with_reducible refine s_name ?_
      with_reducible refine seq_join (fun σ' H6 => ∃ nodes', σ' = [some (.ref sc), some (.int (0 + (i : Int))), some (.ref D.d), some (.ref a), some (.int (here : Int)), x5, x6, x7, x8, x9, xa, xb, xc, xd] ∧ KpN D nas H5 H6 ∧ Paired (fun na node => StepsAt H6 na (nodeV node)) nas nodes' ∧ sameNames sh.nodes nodes' ∧ ∀ node ∈ nodes', ∀ p ∈ node, p.2 < sh.nodes.length) (fun R hR => ?_) (fun σ' H6 hJ => ?_)
      · have stay : ∀ H', Kp D H5 H' → R [some (.ref sc), some (.int (0 + (i : Int))), some (.ref D.d), some (.ref a), some (.int (here : Int)), x5, x6, x7, x8, x9, xa, xb, xc, xd] H' := fun H' kp => hR _ _ ⟨sh.nodes, rfl, KpN.of kp, paired_mono (fun _ _ h => h.kp k15.dk kp) at5.nodes, ⟨rfl, fun _ => rfl⟩, ok.tos⟩
        obtain ⟨vs, hvs, prs⟩ := id hst
        have lvs : vs.length = sh.nodes[here].length := by have := paired_len prs; unfold nodeV at this; rwa [List.length_map] at this
        with_reducible refine s_if ?_
        with_reducible refine i_and ?_
        refine i_test (i_op (i_op (i_op (i_var rfl (i_c (i_ixT ha5 rfl (i_var rfl (i_ixL (v := .ref na) (SqL.of hn5) (atI_nat (by rw [List.getElem?_map, hna]; rfl)) ?_))))))))
        refine r_neNil hvs fun H7 S7 => ?_
        have k57 := Kp.of k15.dk S7
        by_cases c0 : vs.length = 0
        · refine ifF (by rw [decide_eq_true c0]; rfl) (iteF ?_)
          repeat walk_at "vc"
          exact stay H7 k57
        refine ifT (by rw [decide_eq_false c0]; rfl) ?_
        repeat walk_at "vc"
        refine ⟨D, 2, rfl, k57.dk, by decide, by decide, fun r8 H8 r80 r81 k8 => ?_⟩
        have k58 := k57.trans k8
        have at8 := at5.kp k15.dk k58
        have ha8 := at8.ha
        have hn8 := at8.hn
        obtain ⟨na8, hna8, hst8⟩ := paired_get' at8.nodes (List.getElem?_eq_getElem hh)
        rw [hna] at hna8
        cases hna8
        obtain ⟨vs8, hvs8, prs8⟩ := hst8
        have lvs8 : vs8.length = sh.nodes[here].length := by have := paired_len prs8; unfold nodeV at this; rwa [List.length_map] at this
        repeat walk_at "vc"
        refine ite2 (fun _ => ?_) (fun _ => ?_)
        case refine_2 =>
          repeat walk_at "vc"
          exact stay H8 k58
        have h0 : 0 < vs8.length := by omega
        obtain ⟨p, b, hpn, eb, hb⟩ := steps_get prs8 (List.getElem?_eq_getElem h0)
        refine s_asg (i_tup (i_cons (i_op (i_op (i_op (i_op (i_var rfl (i_c (i_ixT ha8 rfl (i_var rfl (i_ixL (v := .ref na) (SqL.of hn8) (atI_nat (by rw [List.getElem?_map, hna]; rfl)) (i_c (i_ixL (v := .ref b) (SqL.of hvs8) (atI_nat (j := 0) (by rw [List.getElem?_eq_getElem h0, eb])) (i_c (i_ixT hb rfl ?_)))))))))))))))
        repeat walk_at "vc"
        rw [List.length_map]
        refine ⟨D, _, rfl, k58.dk, by omega, by omega, fun r9 H9 r90 r91 k9 => ?_⟩
        obtain ⟨to, rfl⟩ := Int.eq_ofNat_of_zero_le r90
        have k59 := k58.trans k9
        repeat walk_at "vc"
        refine ⟨by simp [sizeLine], fun t ht => ?_⟩
        generalize hE : upd H9 t _ = HA
        obtain ⟨SA, qA⟩ := upd_pair ht hE
        clear hE
        have k5A := k59.trans (Kp.of k59.dk SA)
        have atA := at5.kp k15.dk k5A
        have haA := atA.ha
        have hnA := atA.hn
        obtain ⟨na8, hna8, hstA⟩ := paired_get' atA.nodes (List.getElem?_eq_getElem hh)
        rw [hna] at hna8
        cases hna8
        obtain ⟨vsA, hvsA, prsA⟩ := hstA
        have lvsA : vsA.length = sh.nodes[here].length := by have := paired_len prsA; unfold nodeV at this; rwa [List.length_map] at this
        repeat walk_at "vc"
        refine i_ixL (v := .ref na) (SqL.of hnA) (atI_nat (by rw [List.getElem?_map, hna]; rfl)) ?_
        repeat walk_at "vc"
        refine s_setL (j := 0) hvsA (by unfold ixN; rw [if_pos (by decide), if_pos (by omega)]; rfl) ?_
        have hm := List.mem_of_getElem? hna
        have hpn' : sh.nodes[here][0]? = some p := hpn
        refine hR _ _ ⟨sh.nodes.set here (sh.nodes[here].set 0 (p.1, to)), rfl, ⟨fun c o e no nn => ?_, ?_⟩, paired_set nd hna (fun x' hx' ne node h => steps_off ⟨_, hvsA⟩ h ne) ⟨_, upd_same, ?_⟩ atA.nodes, ⟨List.length_set, fun i => ?_⟩, fun node hnode q hq => ?_⟩
        · have ne : c ≠ na := fun z => nn (by rw [z]; exact hm)
          rw [upd_ne ne]; exact k5A.old c o e no
        · obtain ⟨x, y, z, e⟩ := k5A.dk
          exact ⟨x, y, z, by rw [upd_ne (fun q => notOwn k5A.dk hvsA (fun ys z => by cases z; exact noint_refs (steps_refs prsA)) q.symm)]; exact e⟩
        · have nt : ∀ {c xs}, HA c = some (.tup xs) → c ≠ na := fun q z => by rw [z, hvsA] at q; cases q
          have pA := prsA
          unfold nodeV at pA ⊢
          rw [List.map_set]
          refine paired_of (by rw [List.length_set, List.length_set]; exact paired_len pA) fun i v st e1 e2 => ?_
          by_cases ci : 0 = i
          · subst ci
            rw [List.getElem?_set_self (by omega)] at e1
            rw [List.getElem?_set_self (by rw [List.length_map]; omega)] at e2
            cases e1; cases e2
            exact ⟨t, rfl, by rw [upd_ne (nt qA)]; exact qA⟩
          · rw [List.getElem?_set_ne ci] at e1 e2
            obtain ⟨st', e3, c, rfl, hc⟩ := paired_get pA e1
            rw [e2] at e3
            cases e3
            exact ⟨c, rfl, by rw [upd_ne (nt hc)]; exact hc⟩
        · by_cases ci : here = i
          · subst ci
            rw [getD_set_eq hh, List.getD_eq_getElem?_getD, List.getElem?_eq_getElem hh]
            exact names_set hpn'
          · rw [getD_set_ne ci]
        · rcases List.mem_or_eq_of_mem_set hnode with h | h
          · exact ok.tos _ h q hq
          · subst h
            rcases List.mem_or_eq_of_mem_set hq with h | h
            · exact ok.tos _ (List.getElem_mem hh) q h
            · subst h; show to < _; omega
      obtain ⟨nodes', rfl, k6, pr6, sn, tos⟩ := hJ
      have fr6 := frm_led fr sn tos
      have ok6 := fr6.ok
      have nasT : ∀ {T : Addr} {o : HO}, H5 T = some o → (∀ xs, o ≠ .lst xs) → T ∉ nas := fun {T o} e no hm => by
        obtain ⟨j, hj, ej⟩ := List.mem_iff_getElem.mp hm
        obtain ⟨node, _, vs, hv, _⟩ := paired_get at5.nodes (i := j) (x := T) (by rw [List.getElem?_eq_getElem hj, ej])
        rw [e] at hv
        exact no _ (Option.some.inj hv)
      have tb6 : TbAt TL lmRows H6 := by
        rcases k15.tab with e | ⟨c, e, q⟩
        · exact .inl (k6.old _ _ e (notOwn k15.dk e (fun _ z => nomatch z)) (nasT e (fun _ z => nomatch z)))
        · exact .inr ⟨c, k6.old _ _ e (notOwn k15.dk e (fun _ z => nomatch z)) (nasT e (fun _ z => nomatch z)), k6.old _ _ q (notOwn k15.dk q (fun _ z => nomatch z)) (nasT q (fun _ z => nomatch z))⟩
      have nsc : ∀ o, H0 sc = some o → ¬ D.own sc := fun o e z => by cases z; rw [nD] at e; cases e
      have k06 : ∀ o, H0 sc = some o → sc ≠ TL → H6 sc = some o := fun o e nT => by
        have no := nsc o e
        have e5 := k15.old _ _ (S1 _ _ e) nT no
        refine k6.old _ _ e5 no fun hm => ?_
        have e1 := S1 _ _ e
        rw [nas0 _ hm] at e1; cases e1
      have at6 : ShAt H6 a li lo ln nas { sh with nodes := nodes' } := by
        have rl : ∀ {b : Addr} {xs : List Str}, H5 b = some (.lst (xs.map V.str)) → b ∉ nas → H6 b = some (.lst (xs.map V.str)) := fun {b xs} e nn => k6.old _ _ e (notOwn k15.dk e (fun ys q => by cases q; exact noint_strs _)) nn
        exact ⟨k6.old _ _ at5.ha (notOwn k15.dk at5.ha (fun _ z => nomatch z)) (nasT at5.ha (fun _ z => nomatch z)), rl at5.hi lin, rl at5.ho lon, k6.old _ _ at5.hn (notOwn k15.dk at5.hn (fun ys q => by cases q; exact noint_refs (refs_map _))) lnn, pr6⟩
      generalize ({ sh with nodes := nodes' } : Sh) = s6 at fr6 ok6 at6
      have DA6 := k6.dk
      clear k4 k5 k14 k15 K5 at4 at5 hst hna k6 pr6 sn tos nasT ha4 hn4 ha5 hn5 fr ok dr n1 n100 lnas
      have n1 := ok6.n1
      have n100 := ok6.n100
      repeat walk_at "vc"
      refine ⟨a, li, lo, ln, nas, s6, rfl, at6, fr6, tb6, fun good H7 t7 hb7 => ?_⟩
      have k67 := Ky.of_tk tb6 DA6 t7
      have at7 := at6.ky tb6 DA6 k67
      repeat walk_at "vc"
      refine ⟨D, a, li, lo, ln, nas, s6, rfl, k67.dk, at7, ok6, fun t8 o a2 ln2 nas2 ord H8 k8 q8 o8 qo8 od at28 => ?_⟩
      have k68 := k67.trans (Ky.of_kp k67.tab k67.dk k8)
      have at8 := at7.kp k67.dk k8
      have no : ¬ D.own o := notOwn_fresh k67.dk o8
      refine ⟨t8, _, rfl, SqT.of q8, rfl, _, _, rfl, s_name ⟨_, _, rfl, s_name ⟨rfl, ?_⟩⟩⟩
      repeat walk_at "vc"
      refine ⟨D, a, li, lo, ln, nas, s6, rfl, k68.dk, at8, ok6, fun t9 pl a3 li3 lo3 ins' outs' H9 k9 q9 pl9 qpl9 pmi pmo at39 => ?_⟩
      have k69 := k68.trans (Ky.of_kp k68.tab k68.dk k9)
      have at9 := at8.kp k68.dk k9
      have at29 := at28.kp k68.dk k9
      have qo9 := k9.old _ _ qo8 no
      have npl : ¬ D.own pl := notOwn_fresh k68.dk pl9
      refine ⟨t9, _, rfl, SqT.of q9, rfl, _, _, rfl, s_name ⟨_, _, rfl, s_name ⟨rfl, ?_⟩⟩⟩
      have ha9 := at9.ha
      have lnas := paired_len at9.nodes
      repeat walk_at "vc"
      refine i_comp (s_list (i_op (i_var rfl (i_c (i_ixT ha9 rfl ⟨ln, rfl, ⟨_, SqL.of at9.hn⟩, fun L hL => ?_⟩)))))
      have DA9 := k69.dk
      refine comp_list (xs := nas.map V.ref) (fun n H' ys => Kp D H9 H' ∧ H' L = some (.lst ys) ∧ ∃ (nas' : List Addr) (nodesP : List (List (Str × Nat))), ys = nas'.map V.ref ∧ (∀ b ∈ nas', b ≠ L) ∧ Paired (fun na node => StepsAt H' na (nodeV node)) nas' nodesP ∧ Paired (fun a b => List.Perm a b) nodesP (s6.nodes.take n))
        ⟨Kp.fresh DA9 hL (Kp.of DA9 (Same.refl _)), upd_same, [], [], rfl, fun b h => (nomatch h), .nil, by simp; exact .nil⟩ (fun n H' ys p => ⟨p.2.1, SqL.of (p.1.refs DA9 at9.hn (refs_map _))⟩) (fun n x H' ys e p => ?_) (fun HA ys p => ?_)
      · obtain ⟨kp, hl, nas', nodesP, rfl, nL, prs, prp⟩ := p
        rw [List.getElem?_map] at e
        cases en : nas[n]? with
        | none => rw [en] at e; cases e
        | some na4 =>
          rw [en] at e
          cases e
          obtain ⟨node, hnode, hst9⟩ := paired_get at9.nodes en
          have hn : n < nas.length := (List.getElem?_eq_some_iff.mp en).1
          obtain ⟨vs, hv, pv⟩ := hst9.kp DA9 kp
          have lvs : vs.length = node.length := steps_len pv
          have few := ok6.few _ (List.mem_of_getElem? hnode)
          have lnn : nas'.length = n := by rw [paired_len prs, paired_len prp, List.length_take]; omega
          refine s_name ⟨by repeat' (first | exact trivial | refine ⟨rfl, ?_⟩), i_yes (iteT ?_)⟩
          refine i_call (i_cons (i_var rfl (i_cons (i_var rfl (i_nil ?_)))))
          refine ⟨D, na4, vs, rfl, kp.dk, hv, by omega, fun p ys' H'' p0 hp pm k'' => ?_⟩
          have nl : p ≠ L := ne_of_none' hl p0
          have hl'' : H'' L = some (.lst (nas'.map V.ref)) := k''.refs kp.dk hl (refs_map _)
          obtain ⟨node', pmn, hst''⟩ := steps_perm (paired_mono (fun v st ⟨b, e, q⟩ => ⟨b, e, k''.tups kp.dk _ _ q⟩) pv) pm hp
          refine NextC.mk hl'' (by rw [List.length_map]; exact hn) (by rw [List.length_map]; omega) ⟨Kp.fresh DA9 hL (kp.trans k''), upd_same, nas' ++ [p], nodesP ++ [node'], by rw [List.map_append]; rfl, fun b hb => ?_, paired_snoc (paired_mem (fun b hb node h => steps_off ⟨_, hl''⟩ (h.kp kp.dk k'') (nL b hb)) prs) (steps_off ⟨_, hl''⟩ hst'' nl), ?_⟩
          · rcases List.mem_append.mp hb with h | h
            · exact nL b h
            · rw [List.mem_singleton] at h; subst h; exact nl
          · rw [List.take_succ, hnode]
            exact paired_snoc prp pmn
      obtain ⟨kA, hLA, nasP, nodesP, rfl, _, prs, prp⟩ := p
      rw [List.length_map, lnas, List.take_of_length_le (Nat.le_refl _)] at prp
      refine i_nil ⟨by simp [sizeLine], fun a4 ha4 => ?_⟩
      generalize hE : upd HA a4 _ = HB
      obtain ⟨SB, qB⟩ := upd_pair ha4 hE
      clear hE
      have k6A := k69.trans (Ky.of_kp k69.tab k69.dk kA)
      have k6B := k6A.trans (Ky.of_same k6A.tab k6A.dk SB)
      have k9B : Kp D H9 HB := kA.trans (Kp.of kA.dk SB)
      have atB := at9.kp DA9 k9B
      have at2B := at29.kp DA9 k9B
      have at3B := at39.kp DA9 k9B
      have at4B : ShAt HB a4 li lo L nasP (shuf s6 nodesP) := ⟨qB, atB.hi, atB.ho, SB _ _ hLA, paired_mono (fun _ _ h => h.same SB) prs⟩
      have qoB := k9B.old _ _ qo9 no
      have qplB := k9B.old _ _ qpl9 npl
      have frN := numb_frm fr6 od
      have rew := rewd_rew pmi pmo
      have frR := rew.frm fr6 pmi.length_eq pmo.length_eq
      have frP := shuf_frm fr6 prp
      have smP : SameE s6 (shuf s6 nodesP) := same_perm rfl rfl (paired_perm prp)
      with_reducible refine s_name ?_
      with_reducible refine s_seq ?_
      refine s_for (s_list (i_lst (i_cons (i_var rfl (i_cons (i_var rfl (i_cons (i_var rfl (i_nil ⟨by simp [sizeLine], fun p hp => ?_⟩)))))))))
      generalize hE : upd HB p _ = HC
      obtain ⟨SC, qC⟩ := upd_pair hp hE
      clear hE
      have k6C := k6B.trans (Ky.of_same k6B.tab k6B.dk SC)
      have like : ∀ x ∈ [a2, a3, a4], Like HC s6 x := fun x hx => by
        simp only [List.mem_cons, List.not_mem_nil, or_false] at hx
        rcases hx with rfl | rfl | rfl
        · exact ⟨_, _, _, _, _, at2B.same SC, frN, ⟨fun ⟨lam, l⟩ => ⟨_, numb_lab' ok6 od l⟩, fun ⟨lam, l⟩ => ⟨_, numb_lab ok6 od l⟩⟩⟩
        · exact ⟨_, _, _, _, _, at3B.same SC, frR, ⟨fun ⟨lam, l⟩ => ⟨_, (rew.symm ok6).lab frR.ok l⟩, fun ⟨lam, l⟩ => ⟨_, rew.lab ok6 l⟩⟩⟩
        · exact ⟨_, _, _, _, _, at4B.same SC, frP, ⟨fun ⟨lam, l⟩ => ⟨lam, (smP.lab lam).mp l⟩, fun ⟨lam, l⟩ => ⟨lam, (smP.lab lam).mpr l⟩⟩⟩
      refine ⟨p, rfl, ⟨_, SqL.of qC⟩, ?_⟩
      refine for_list (xs := [.ref a2, .ref a3, .ref a4]) (fun j σ' H' => (∃ xb, σ' = [some (.ref sc), some (.int (0 + (i : Int))), some (.ref D.d), some (.ref a), some (.int (here : Int)), some (.bl good), some (.ref o), some (.ref a2), some (.ref pl), some (.ref a3), some (.ref a4), xb, xc, xd]) ∧ Tk TL HC H') ⟨⟨_, rfl⟩, Tk.of k6C.tab (Same.refl _)⟩ (fun j σ' H' _ pv => SqL.of (pv.2.lst k6C.tab _ _ qC)) (fun j x σ' H' hx pv => ?_) (fun σ' HD pv => ?_)
      · obtain ⟨⟨xb, rfl⟩, tk⟩ := pv
        obtain ⟨ax, hax, rfl⟩ : ∃ ax ∈ [a2, a3, a4], x = .ref ax := by
          have := List.mem_of_getElem? hx
          simp only [List.mem_cons, List.not_mem_nil, or_false] at this
          rcases this with h | h | h
          · exact ⟨a2, by simp, h⟩
          · exact ⟨a3, by simp, h⟩
          · exact ⟨a4, by simp, h⟩
        obtain ⟨lix, lox, lnx, nax, sx, atx, frx, iffx⟩ := like ax hax
        refine s_name ?_
        repeat walk_at "vc"
        refine ⟨ax, lix, lox, lnx, nax, sx, rfl, atx.mono (tk.lst k6C.tab) (tk.tup k6C.tab), frx, tk.tab, fun b9 HE tE hbE => ?_⟩
        have eb : b9 = good := by
          have h1 : b9 = true ↔ good = true := hbE.trans (iffx.trans hb7.symm)
          cases b9 <;> cases good
          · rfl
          · exact absurd (h1.mpr rfl) Bool.false_ne_true
          · exact absurd (h1.mp rfl) Bool.false_ne_true
          · rfl
        subst eb
        repeat walk_at "vc"
        refine ifF (by rw [decide_eq_true rfl]; rfl) ?_
        repeat walk_at "vc"
        exact ⟨⟨_, rfl⟩, tk.trans tE⟩
      obtain ⟨⟨xb, rfl⟩, tkD⟩ := pv
      have k6D := k6C.trans (Ky.of_tk k6C.tab k6C.dk tkD)
      have fin : ∀ HZ, Ky TL D H6 HZ → SqL K HZ sc (cells.map V.int) ∧ TbAt TL lmRows HZ := fun HZ kz => ⟨sql_keep tb hS fun o e nT => kz.old _ _ (k06 o e nT) nT (nsc o e), kz.tab⟩
      cases good with
      | false =>
        repeat walk_at "vc"
        exact ⟨⟨_, _, _, _, _, _, _, _, _, _, _, _, _, rfl⟩, fin _ k6D⟩
      | true =>
        obtain ⟨lam, lb⟩ := hb7.mp rfl
        have kCD : Ky TL D HC HD := Ky.of_tk k6C.tab k6C.dk tkD
        have atD := (atB.same SC).ky k6C.tab k6C.dk kCD
        have at2D := (at2B.same SC).ky k6C.tab k6C.dk kCD
        have at3D := (at3B.same SC).ky k6C.tab k6C.dk kCD
        have at4D := (at4B.same SC).ky k6C.tab k6C.dk kCD
        have qoD := kCD.lst k6C.tab (SC _ _ qoB) no
        have qplD := kCD.lst k6C.tab (SC _ _ qplB) npl
        have w11 := ok6.w11
        repeat walk_at "vc"
        refine ⟨a, li, lo, ln, nas, s6, rfl, atD, ok6, k6D.tab, fun LT us HE tE hLT0 hLT sgs => ?_⟩
        have nLT : ¬ D.own LT := notOwn_fresh k6D.dk hLT0
        have lus := sgs.len
        have kDE := Ky.of_tk k6D.tab k6D.dk tE
        have k6E := k6D.trans kDE
        with_reducible refine s_name ?_
        with_reducible refine s_seq ?_
        with_reducible refine s_if ?_
        with_reducible refine i_or ?_
        refine i_test (i_op (i_call (i_cons (i_var rfl (i_nil ?_)))))
        refine ⟨a2, li, lo, ln2, nas2, _, rfl, at2D.ky k6D.tab k6D.dk kDE, frN.ok, k6E.tab, fun LN vsN HF tF hLN0 hLN sgsN => ?_⟩
        have eN := numb_sgs ok6 od sgs sgsN lb
        have kEF := Ky.of_tk k6E.tab k6E.dk tF
        have kDF := kDE.trans kEF
        have k6F := k6E.trans kEF
        have qoF := kDF.lst k6D.tab qoD no
        have hLTF := kEF.lst k6E.tab hLT nLT
        refine i_comp (s_list (i_var rfl ⟨o, rfl, ⟨_, SqL.of qoF⟩, fun M hM => ?_⟩))
        refine comp_list (xs := ord.map natV) (fun m H' ys => Same HF H' ∧ H' M = some (.lst ys) ∧ ys = (ord.take m).map fun x => us.getD x .non) ⟨fresh_same hM, upd_same, by simp⟩ (fun m H' ys p => ⟨p.2.1, SqL.of (p.1 _ _ qoF)⟩) (fun m v H' ys e p => ?_) (fun HG ys p => ?_)
        · obtain ⟨Sm, hd, rfl⟩ := p
          have hm : m < ord.length := by have := (List.getElem?_eq_some_iff.mp e).1; rwa [List.length_map] at this
          have lord := od.len
          rw [List.getElem?_map, List.getElem?_eq_getElem hm] at e
          cases e
          have hx : ord[m] < us.length := by rw [lus]; exact od.small (List.getElem?_eq_getElem hm)
          refine s_name ⟨by repeat' (first | exact trivial | refine ⟨rfl, ?_⟩), i_yes (iteT ?_)⟩
          refine i_op (i_var rfl (i_var rfl (i_ixL (v := us.getD ord[m] .non) (SqL.of (Sm _ _ hLTF)) (atI_nat (j := ord[m]) (by rw [List.getD_eq_getElem?_getD, List.getElem?_eq_getElem hx]; rfl)) ?_)))
          refine NextC.mk hd (by rw [List.length_map]; exact hm) (by rw [List.length_map, List.length_take]; omega) ⟨same_upd Sm hM, upd_same, ?_⟩
          rw [List.take_succ, List.getElem?_eq_getElem hm, List.map_append]; rfl
        obtain ⟨SG, hMG, rfl⟩ := p
        rw [List.length_map, List.take_of_length_le (Nat.le_refl _), ← eN] at hMG
        have kFG := Ky.of_same k6F.tab k6F.dk SG
        have k6G := k6F.trans kFG
        have kDG := kDF.trans kFG
        refine i_neL (SqL.of (SG _ _ hLN)) (SqL.of hMG) rfl (eqd_flats sgsN.flat) ⟨_, rfl, iteF ?_⟩
        refine i_test (i_op (i_call (i_cons (i_var rfl (i_nil ?_)))))
        refine ⟨a4, li, lo, L, nasP, _, rfl, at4D.ky k6D.tab k6D.dk kDG, frP.ok, k6G.tab, fun LP vsP HH tH hLP0 hLP sgsP => ?_⟩
        have eP : vsP = us := (smP.sgs (paired_len prp) sgsP).eq ok6 sgs lb
        subst eP
        have kGH := Ky.of_tk k6G.tab k6G.dk tH
        have k6H := k6G.trans kGH
        have kDH := kDG.trans kGH
        have hLTG := SG _ _ hLTF
        have hLTH := kGH.lst k6G.tab hLTG nLT
        refine i_var rfl (i_neL (SqL.of hLP) (SqL.of hLTH) rfl (eqd_flats sgs.flat) ⟨_, rfl, iteF ?_⟩)
        with_reducible refine s_next ?_
        with_reducible refine s_seq ?_
        with_reducible refine s_if ?_
        refine i_test (i_op (i_call (i_cons (i_var rfl (i_nil ?_)))))
        refine ⟨a3, li3, lo3, ln, nas, _, rfl, at3D.ky k6D.tab k6D.dk kDH, frR.ok, k6H.tab, fun LR vsR HI tI hLR0 hLR sgsR => ?_⟩
        have eR := rew.sgs ok6 sgs sgsR lb
        have kHI := Ky.of_tk k6H.tab k6H.dk tI
        have k6I := k6H.trans kHI
        have kDI := kDH.trans kHI
        have hLTI := kHI.lst k6H.tab hLTH nLT
        have qplI := kDI.lst k6D.tab qplD npl
        have lisW : ((ins' ++ outs').map s6.ws.idxOf).length = s6.ws.length := by
          rw [List.length_map, List.length_append, pmi.length_eq, pmo.length_eq]; unfold Sh.ws; rw [List.length_append]
        have lis : ((ins' ++ outs').map s6.ws.idxOf).length ≤ 11 := by omega
        have ltis : ∀ i ∈ (ins' ++ outs').map s6.ws.idxOf, i < s6.ws.length := fun i hi => by
          obtain ⟨x, hx, rfl⟩ := List.mem_map.mp hi
          exact List.idxOf_lt_length_of_mem ((pmi.append pmo).mem_iff.mp hx)
        have eR : vsR = vsP.map (pickV ((ins' ++ outs').map s6.ws.idxOf)) := eR
        generalize (ins' ++ outs').map s6.ws.idxOf = is at *
        refine i_comp (s_list (i_var rfl ⟨LT, rfl, ⟨_, SqL.of hLTI⟩, fun M2 hM2 => ?_⟩))
        refine comp_list (xs := vsP) (fun m H' ys => Same HI H' ∧ H' M2 = some (.lst ys) ∧ ys = (vsP.take m).map (pickV is)) ⟨fresh_same hM2, upd_same, by simp⟩ (fun m H' ys p => ⟨p.2.1, SqL.of (p.1 _ _ hLTI)⟩) (fun m v H' ys e p => ?_) (fun HJ ys p => ?_)
        · obtain ⟨Sm, hd, rfl⟩ := p
          have hm : m < vsP.length := (List.getElem?_eq_some_iff.mp e).1
          have hv : v = .non ∨ ∃ y, v = .str y ∧ StOk s6.ws.length y := by
            by_cases r : s6.R m
            · obtain ⟨y, e', st, _⟩ := sgs.row m r
              rw [e] at e'
              cases e'
              exact .inr ⟨y, rfl, st⟩
            · rw [sgs.none m (by rw [← lus]; exact hm) r] at e
              cases e
              exact .inl rfl
          refine s_name ⟨by repeat' (first | exact trivial | refine ⟨rfl, ?_⟩), i_yes (iteT ?_)⟩
          refine i_call (i_cons (i_var rfl (i_cons (i_var rfl (i_nil ?_)))))
          refine ⟨v, pl, s6.ws.length, is, rfl, ?_, Sm _ _ qplI, lis, fun H'' S'' => ?_⟩
          · rcases hv with h | ⟨y, h, st⟩
            · exact .inl h
            · exact .inr ⟨y, h, st, w11, ltis⟩
          refine NextC.mk (S'' _ _ hd) hm (by rw [List.length_map, List.length_take]; omega) ⟨same_upd (Sm.trans S'') hM2, upd_same, ?_⟩
          rw [List.take_succ, e, List.map_append]; rfl
        obtain ⟨SJ, hMJ, rfl⟩ := p
        rw [List.take_of_length_le (Nat.le_refl _), ← eR] at hMJ
        have kIJ := Ky.of_same k6I.tab k6I.dk SJ
        have k6J := k6I.trans kIJ
        have kDJ := kDI.trans kIJ
        refine i_neL (SqL.of (SJ _ _ hLR)) (SqL.of hMJ) rfl (eqd_flats sgsR.flat) ⟨_, rfl, iteF ?_⟩
        with_reducible refine s_next ?_
        with_reducible refine s_seq ?_
        have atJ := atD.ky k6D.tab k6D.dk kDJ
        have haJ := atJ.ha
        have hnJ := atJ.hn
        have hLTJ := SJ _ _ hLTI
        have lnas := paired_len atJ.nodes
        refine s_asg (i_comp (s_zipL (i_cons (i_op (i_var rfl (i_c (i_ixT haJ rfl (i_cons (i_var rfl (i_nil ⟨ln, LT, rfl, ⟨_, SqL.of hnJ⟩, ⟨_, SqL.of hLTJ⟩, fun LB hLB => ?_⟩))))))))))
        refine comp_zipL (xs := nas.map V.ref) (us := vsP) (by rw [List.length_map]; omega) (fun n H' ys => Same HJ H' ∧ H' LB = some (.lst ys) ∧ ∃ nasB : List Addr, ys = nasB.map V.ref ∧ (∀ b ∈ nasB, b ≠ LB) ∧ Paired (fun na node => StepsAt H' na (nodeV node)) nasB ((bare s6).nodes.take n)) ⟨fresh_same hLB, upd_same, [], rfl, fun b h => (nomatch h), by simp; exact .nil⟩ (fun n H' ys p => ⟨p.2.1, SqL.of (p.1 _ _ hnJ), SqL.of (p.1 _ _ hLTJ)⟩) (fun n x u H' ys Tt ex eu p hT => ?_) (fun HK ys p => ?_)
        · obtain ⟨Sm, hd, nasB, rfl, nB, prB⟩ := p
          rw [List.getElem?_map] at ex
          cases en : nas[n]? with
          | none => rw [en] at ex; cases ex
          | some na4 =>
            rw [en] at ex
            cases ex
            have hn : n < nas.length := (List.getElem?_eq_some_iff.mp en).1
            have hn6 : n < s6.nodes.length := by omega
            have SmT : Same H' (upd H' Tt (.tup [.ref na4, u])) := fresh_same hT
            have qT : upd H' Tt (.tup [.ref na4, u]) Tt = some (.tup [.ref na4, u]) := upd_same
            generalize upd H' Tt (.tup [.ref na4, u]) = HT at *
            obtain ⟨node, hnode, hst⟩ := paired_get atJ.nodes en
            obtain ⟨vs, hv, pv⟩ := (hst.same Sm).same SmT
            have lvs : vs.length = node.length := steps_len pv
            have few := ok6.few _ (List.mem_of_getElem? hnode)
            have lnB : nasB.length = n := by rw [paired_len prB, List.length_take, bare_len]; omega
            have hdT := SmT _ _ hd
            have bn : (bare s6).nodes[n]? = some ((bare s6).node n) := by unfold Sh.node; rw [List.getD_eq_getElem?_getD, List.getElem?_eq_getElem (by rw [bare_len]; exact hn6)]; rfl
            have last : ∀ (L4 : Addr) (H3 : Hp) (zs : List V), HT L4 = none → Same HT H3 → H3 L4 = some (.lst zs) → Paired (fun v (s : V × Key) => ∃ b, v = .ref b ∧ HT b = some (.tup [s.1, kV s.2])) zs (nodeV ((bare s6).node n)) → NextC (fun n H' ys => Same HJ H' ∧ H' LB = some (.lst ys) ∧ ∃ nasB : List Addr, ys = nasB.map V.ref ∧ (∀ b ∈ nasB, b ≠ LB) ∧ Paired (fun na node => StepsAt H' na (nodeV node)) nasB ((bare s6).nodes.take n)) (nas.map V.ref).length LB n (nasB.map V.ref) (.ref L4) H3 := fun L4 H3 zs h4 S3 hz pz => by
              have nl : L4 ≠ LB := ne_of_none' hdT h4
              have hd3 := S3 _ _ hdT
              refine NextC.mk hd3 (by rw [List.length_map]; exact hn) (by rw [List.length_map]; omega) ⟨same_upd (Sm.trans (SmT.trans S3)) hLB, upd_same, nasB ++ [L4], by rw [List.map_append]; rfl, fun b hb => ?_, ?_⟩
              · rcases List.mem_append.mp hb with h | h
                · exact nB b h
                · rw [List.mem_singleton] at h; subst h; exact nl
              · rw [List.take_succ, bn]
                exact paired_snoc (paired_mem (fun b hb node h => steps_off ⟨_, hd3⟩ ((h.same SmT).same S3) (nB b hb)) prB) (steps_off ⟨_, hd3⟩ ⟨zs, hz, paired_mono (fun v st ⟨b, e, q⟩ => ⟨b, e, S3 _ _ q⟩) pz⟩ nl)
            refine ⟨Tt, _, rfl, SqT.of qT, rfl, _, _, rfl, s_name ⟨_, _, rfl, s_name ⟨rfl, by repeat' (first | exact trivial | refine ⟨rfl, ?_⟩), i_yes (iteT ?_)⟩⟩⟩
            refine i_comp (s_list (i_var rfl ⟨na4, rfl, ⟨_, SqL.of hv⟩, fun L4 hL4 => ?_⟩))
            by_cases r : s6.R n
            · obtain ⟨y, ey, _, _⟩ := sgs.row n r
              rw [eu] at ey
              cases ey
              refine comp_listF (xs := vs) (fun m H3 zs => Same HT H3 ∧ H3 L4 = some (.lst zs) ∧ zs = vs.take m) ⟨fresh_same hL4, upd_same, by simp⟩ (fun m H3 zs p => ⟨p.2.1, SqL.of (p.1 _ _ hv)⟩) (fun m v H3 zs e p => ?_) (fun H3 zs p => ?_)
              · obtain ⟨S3, hz, rfl⟩ := p
                have hm : m < vs.length := (List.getElem?_eq_some_iff.mp e).1
                refine s_name ⟨by repeat' (first | exact trivial | refine ⟨rfl, ?_⟩), ?_⟩
                repeat walk_at "vc"
                refine ⟨rfl, _, rfl, ?_⟩
                refine ifT (by rw [decide_eq_false (fun z => nomatch z)]; rfl) ?_
                refine i_var rfl (NextC.mk hz hm (by rw [List.length_take]; omega) ⟨same_upd S3 hL4, upd_same, ?_⟩)
                rw [List.take_succ, e]; rfl
              obtain ⟨S3, hz, rfl⟩ := p
              rw [List.take_of_length_le (Nat.le_refl _)] at hz
              refine last L4 H3 vs hL4 S3 hz ?_
              rw [bare_node hn6, if_pos r, Sh.node_of hnode]; exact pv
            · rw [sgs.none n hn6 r] at eu
              cases eu
              refine comp_listF (xs := vs) (fun m H3 zs => Same HT H3 ∧ H3 L4 = some (.lst zs) ∧ zs = []) ⟨fresh_same hL4, upd_same, rfl⟩ (fun m H3 zs p => ⟨p.2.1, SqL.of (p.1 _ _ hv)⟩) (fun m v H3 zs e p => ?_) (fun H3 zs p => ?_)
              · obtain ⟨S3, hz, rfl⟩ := p
                have hm : m < vs.length := (List.getElem?_eq_some_iff.mp e).1
                refine s_name ⟨by repeat' (first | exact trivial | refine ⟨rfl, ?_⟩), ?_⟩
                repeat walk_at "vc"
                refine ⟨rfl, _, rfl, ?_⟩
                refine ifF rfl ?_
                exact ⟨_, by omega, rfl, hm, S3, hz, rfl⟩
              obtain ⟨S3, hz, rfl⟩ := p
              refine last L4 H3 [] hL4 S3 hz ?_
              rw [bare_node hn6, if_neg r]; exact .nil
        obtain ⟨SK, hBK, nasB, rfl, _, prB⟩ := p
        rw [List.length_map, lnas, ← bare_len, List.take_of_length_le (Nat.le_refl _)] at prB
        have kJK := Ky.of_same k6J.tab k6J.dk SK
        have k6K := k6J.trans kJK
        have atK := atJ.same SK
        have haK := atK.ha
        with_reducible refine s_name ?_
        repeat walk_at "vc"
        refine ⟨by simp [sizeLine], fun a5 ha5 => ?_⟩
        generalize hE : upd HK a5 _ = HL
        obtain ⟨SL, qL⟩ := upd_pair ha5 hE
        clear hE
        have kKL := Ky.of_same k6K.tab k6K.dk SL
        have k6L := k6K.trans kKL
        have at5L : ShAt HL a5 li lo LB nasB (bare s6) := ⟨qL, SL _ _ atK.hi, SL _ _ atK.ho, SL _ _ hBK, paired_mono (fun _ _ h => h.same SL) prB⟩
        have hLTL := SL _ _ (SK _ _ hLTJ)
        repeat walk_at "vc"
        refine ⟨a5, li, lo, LB, nasB, bare s6, rfl, at5L, bare_ok ok6, k6L.tab, fun LZ vsZ HM tM hLZ0 hLZ sgsZ => ?_⟩
        have eZ : vsZ = vsP := ((bare_same ok6).sgs bare_len sgsZ).eq ok6 sgs lb
        subst eZ
        have kLM := Ky.of_tk k6L.tab k6L.dk tM
        have k6M := k6L.trans kLM
        have hLTM := kLM.lst k6L.tab hLTL nLT
        refine i_var rfl (i_neL (SqL.of hLZ) (SqL.of hLTM) rfl (eqd_flats sgs.flat) ⟨_, rfl, iteF ?_⟩)
        repeat walk_at "vc"
        exact ⟨⟨_, _, _, _, _, _, _, _, _, _, _, _, _, rfl⟩, fin _ k6M⟩
    · obtain ⟨⟨x1, x2, x3, x4, x5, x6, x7, x8, x9, xa, xb, xc, xd, rfl⟩, _⟩ := pv
      repeat walk_at "vc"
      exact k H'
end
end K2
set_option Elab.async false
set_option linter.all false
set_option maxRecDepth 100000
set_option maxHeartbeats 4000000
namespace K2
open PySem L2 PySem.Spec PyProof.Rows
theorem len_1 {A : Type} {us : List A} (h : us.length = 1) : ∃ a0, us = [a0] := by
  match us, h with
  | [a0], _ => exact ⟨_, rfl⟩
theorem len_2 {A : Type} {us : List A} (h : us.length = 2) : ∃ a0 a1, us = [a0, a1] := by
  match us, h with
  | [a0, a1], _ => exact ⟨_, _, rfl⟩
theorem len_3 {A : Type} {us : List A} (h : us.length = 3) : ∃ a0 a1 a2, us = [a0, a1, a2] := by
  match us, h with
  | [a0, a1, a2], _ => exact ⟨_, _, _, rfl⟩
theorem len_4 {A : Type} {us : List A} (h : us.length = 4) : ∃ a0 a1 a2 a3, us = [a0, a1, a2, a3] := by
  match us, h with
  | [a0, a1, a2, a3], _ => exact ⟨_, _, _, _, rfl⟩
theorem len_5 {A : Type} {us : List A} (h : us.length = 5) : ∃ a0 a1 a2 a3 a4, us = [a0, a1, a2, a3, a4] := by
  match us, h with
  | [a0, a1, a2, a3, a4], _ => exact ⟨_, _, _, _, _, rfl⟩
theorem len_6 {A : Type} {us : List A} (h : us.length = 6) : ∃ a0 a1 a2 a3 a4 a5, us = [a0, a1, a2, a3, a4, a5] := by
  match us, h with
  | [a0, a1, a2, a3, a4, a5], _ => exact ⟨_, _, _, _, _, _, rfl⟩
theorem all_mk {l : PySem.W.OpenLaw} {w : World} {K : PySem.W.Frag} {h : Heap} {mg : Str → Option Value} {fa TT TL0 f0 f1 f2 f3 f4 f5 f6 f7 f8 f9 f10 f11 f12 f13 f14 f15 f16 f17 f18 f19 f20 f21 f22 f23 f24 f25 f26 f27 : Addr} (X : K.In h) (G : h.Ns mainGlobals mg) (hfa : mg "law" = some (.ref fa))
    {od0 an0 od1 an1 od2 an2 od3 an3 od4 an4 od5 an5 od6 an6 od7 an7 od8 an8 od9 an9 od10 an10 od11 an11 od12 an12 od13 an13 od14 an14 od15 an15 od16 an16 od17 an17 od18 an18 od19 an19 od20 an20 od21 an21 od22 an22 od23 an23 od24 an24 od25 an25 od26 an26 od27 an27 : Option Addr} {sl0 sl1 sl2 sl3 sl4 sl5 sl6 sl7 sl8 sl9 sl10 sl11 sl12 sl13 sl14 sl15 sl16 sl17 sl18 sl19 sl20 sl21 sl22 sl23 sl24 sl25 sl26 sl27 : Array (Option Value)} {oc0 kV0 dc0 pm0 ct0 oc1 kV1 dc1 pm1 ct1 oc2 kV2 dc2 pm2 ct2 oc3 kV3 dc3 pm3 ct3 oc4 kV4 dc4 pm4 ct4 oc5 kV5 dc5 pm5 ct5 oc6 kV6 dc6 pm6 ct6 oc7 kV7 dc7 pm7 ct7 oc8 kV8 dc8 pm8 ct8 oc9 kV9 dc9 pm9 ct9 oc10 kV10 dc10 pm10 ct10 oc11 kV11 dc11 pm11 ct11 oc12 kV12 dc12 pm12 ct12 oc13 kV13 dc13 pm13 ct13 oc14 kV14 dc14 pm14 ct14 oc15 kV15 dc15 pm15 ct15 oc16 kV16 dc16 pm16 ct16 oc17 kV17 dc17 pm17 ct17 oc18 kV18 dc18 pm18 ct18 oc19 kV19 dc19 pm19 ct19 oc20 kV20 dc20 pm20 ct20 oc21 kV21 dc21 pm21 ct21 oc22 kV22 dc22 pm22 ct22 oc23 kV23 dc23 pm23 ct23 oc24 kV24 dc24 pm24 ct24 oc25 kV25 dc25 pm25 ct25 oc26 kV26 dc26 pm26 ct26 oc27 kV27 dc27 pm27 ct27 : Value}
    {cd0 : Value} {cd1 : Value} {cd2 : Value} {cd3 : Value} {cd4 : Value} {cd5 : Value} {cd6 : Value} {cd7 : Value} {cd8 : Value} {cd9 : Value} {cd10 : Value} {cd11 : Value} {cd12 : Value} {cc13 : Addr} {cd14 : Value} {cd15 : Value} {cd16 : Value} {cd17 : Value} {cd18 : Value} {cd19 : Value} {cd20 : Value} {cd21 : Value} {cd22 : Value} {cd23 : Value} {cd24 : Value} {cd25 : Value} {cd26 : Value} {cd27 : Value}
    (aT : PySem.W.nsIn K mainGlobals "TURNED" = some (some (.ref TT))) (tab : tabAt K TT [("0", .flat (.str "1")), ("1", .flat (.str "0"))])
    {tk0 tk1 tk2 tk3 tk4 : Tok}
    (cn0 : PySem.W.nsIn K mainGlobals "LETTERS" = some (some (.str "abcdefghijklmnopqrstuvwxyz" tk0)))
    (cn1 : PySem.W.nsIn K mainGlobals "MOST_LETTERS" = some (some (.int 8 tk1)))
    (cn2 : PySem.W.nsIn K mainGlobals "MOST_INPUTS" = some (some (.int 4 tk2)))
    (cn3 : PySem.W.nsIn K mainGlobals "MOST_GATES" = some (some (.int 7 tk3)))
    (cn4 : PySem.W.nsIn K mainGlobals "MOST_NODES" = some (some (.int 40 tk4)))
    (a0 : PySem.W.nsIn K mainGlobals "is_name" = some (some (.ref f0))) (l0 : K.lookup f0 = some ⟨oc0, od0, .func (PySem.W.fnOf "is_name" "is_name" (defArgs (top 6)) (defBody (top 6)) (defScope (top 6)) .none kV0 dc0 pm0 an0 cd0 ct0), sl0⟩) (c0 : PySem.W.codeIn K cd0 "is_name" = true) (k0 : PySem.W.keepIn K (.ref f0) = true)
    (a1 : PySem.W.nsIn K mainGlobals "is_pair" = some (some (.ref f1))) (l1 : K.lookup f1 = some ⟨oc1, od1, .func (PySem.W.fnOf "is_pair" "is_pair" (defArgs (top 7)) (defBody (top 7)) (defScope (top 7)) .none kV1 dc1 pm1 an1 cd1 ct1), sl1⟩) (c1 : PySem.W.codeIn K cd1 "is_pair" = true) (k1 : PySem.W.keepIn K (.ref f1) = true)
    (a2 : PySem.W.nsIn K mainGlobals "is_whole" = some (some (.ref f2))) (l2 : K.lookup f2 = some ⟨oc2, od2, .func (PySem.W.fnOf "is_whole" "is_whole" (defArgs (top 8)) (defBody (top 8)) (defScope (top 8)) .none kV2 dc2 pm2 an2 cd2 ct2), sl2⟩) (c2 : PySem.W.codeIn K cd2 "is_whole" = true) (k2 : PySem.W.keepIn K (.ref f2) = true)
    (a3 : PySem.W.nsIn K mainGlobals "is_number_below" = some (some (.ref f3))) (l3 : K.lookup f3 = some ⟨oc3, od3, .func (PySem.W.fnOf "is_number_below" "is_number_below" (defArgs (top 9)) (defBody (top 9)) (defScope (top 9)) .none kV3 dc3 pm3 an3 cd3 ct3), sl3⟩) (c3 : PySem.W.codeIn K cd3 "is_number_below" = true) (k3 : PySem.W.keepIn K (.ref f3) = true)
    (a4 : PySem.W.nsIn K mainGlobals "is_row" = some (some (.ref f4))) (l4 : K.lookup f4 = some ⟨oc4, od4, .func (PySem.W.fnOf "is_row" "is_row" (defArgs (top 10)) (defBody (top 10)) (defScope (top 10)) .none kV4 dc4 pm4 an4 cd4 ct4), sl4⟩) (c4 : PySem.W.codeIn K cd4 "is_row" = true) (k4 : PySem.W.keepIn K (.ref f4) = true)
    (a5 : PySem.W.nsIn K mainGlobals "are_unlike_names" = some (some (.ref f5))) (l5 : K.lookup f5 = some ⟨oc5, od5, .func (PySem.W.fnOf "are_unlike_names" "are_unlike_names" (defArgs (top 11)) (defBody (top 11)) (defScope (top 11)) .none kV5 dc5 pm5 an5 cd5 ct5), sl5⟩) (c5 : PySem.W.codeIn K cd5 "are_unlike_names" = true) (k5 : PySem.W.keepIn K (.ref f5) = true)
    (a6 : PySem.W.nsIn K mainGlobals "turned_at" = some (some (.ref f6))) (l6 : K.lookup f6 = some ⟨oc6, od6, .func (PySem.W.fnOf "turned_at" "turned_at" (defArgs (top 12)) (defBody (top 12)) (defScope (top 12)) .none kV6 dc6 pm6 an6 cd6 ct6), sl6⟩) (c6 : PySem.W.codeIn K cd6 "turned_at" = true) (k6 : PySem.W.keepIn K (.ref f6) = true)
    (a7 : PySem.W.nsIn K mainGlobals "found_from" = some (some (.ref f7))) (l7 : K.lookup f7 = some ⟨oc7, od7, .func (PySem.W.fnOf "found_from" "found_from" (defArgs (top 14)) (defBody (top 14)) (defScope (top 14)) .none kV7 dc7 pm7 an7 cd7 ct7), sl7⟩) (c7 : PySem.W.codeIn K cd7 "found_from" = true) (k7 : PySem.W.keepIn K (.ref f7) = true)
    (a8 : PySem.W.nsIn K mainGlobals "is_turn" = some (some (.ref f8))) (l8 : K.lookup f8 = some ⟨oc8, od8, .func (PySem.W.fnOf "is_turn" "is_turn" (defArgs (top 17)) (defBody (top 17)) (defScope (top 17)) .none kV8 dc8 pm8 an8 cd8 ct8), sl8⟩) (c8 : PySem.W.codeIn K cd8 "is_turn" = true) (k8 : PySem.W.keepIn K (.ref f8) = true)
    (a9 : PySem.W.nsIn K mainGlobals "is_node" = some (some (.ref f9))) (l9 : K.lookup f9 = some ⟨oc9, od9, .func (PySem.W.fnOf "is_node" "is_node" (defArgs (top 18)) (defBody (top 18)) (defScope (top 18)) .none kV9 dc9 pm9 an9 cd9 ct9), sl9⟩) (c9 : PySem.W.codeIn K cd9 "is_node" = true) (k9 : PySem.W.keepIn K (.ref f9) = true)
    (a10 : PySem.W.nsIn K mainGlobals "has_wires" = some (some (.ref f10))) (l10 : K.lookup f10 = some ⟨oc10, od10, .func (PySem.W.fnOf "has_wires" "has_wires" (defArgs (top 19)) (defBody (top 19)) (defScope (top 19)) .none kV10 dc10 pm10 an10 cd10 ct10), sl10⟩) (c10 : PySem.W.codeIn K cd10 "has_wires" = true) (k10 : PySem.W.keepIn K (.ref f10) = true)
    (a11 : PySem.W.nsIn K mainGlobals "has_sheet_form" = some (some (.ref f11))) (l11 : K.lookup f11 = some ⟨oc11, od11, .func (PySem.W.fnOf "has_sheet_form" "has_sheet_form" (defArgs (top 20)) (defBody (top 20)) (defScope (top 20)) .none kV11 dc11 pm11 an11 cd11 ct11), sl11⟩) (c11 : PySem.W.codeIn K cd11 "has_sheet_form" = true) (k11 : PySem.W.keepIn K (.ref f11) = true)
    (a12 : PySem.W.nsIn K mainGlobals "row_behind" = some (some (.ref f12))) (l12 : K.lookup f12 = some ⟨oc12, od12, .func (PySem.W.fnOf "row_behind" "row_behind" (defArgs (top 21)) (defBody (top 21)) (defScope (top 21)) .none kV12 dc12 pm12 an12 cd12 ct12), sl12⟩) (c12 : PySem.W.codeIn K cd12 "row_behind" = true) (k12 : PySem.W.keepIn K (.ref f12) = true)
    (a13 : PySem.W.nsIn K mainGlobals "rows_found" = some (some (.ref f13))) (l13 : K.lookup f13 = some ⟨oc13, od13, .func (PySem.W.fnOf "rows_found" "rows_found" (defArgs (top 22)) (defBody (top 22)) (defScope (top 22)) .none kV13 dc13 pm13 an13 (.ref cc13) ct13), sl13⟩) (c13 : PySem.W.codeIn K (.ref cc13) "rows_found" = true) (k13 : PySem.W.keepIn K (.ref f13) = true)
    (h13 : PySem.W.codeHdIn K cc13 TL0 = true)
    (a14 : PySem.W.nsIn K mainGlobals "has_one_row_each" = some (some (.ref f14))) (l14 : K.lookup f14 = some ⟨oc14, od14, .func (PySem.W.fnOf "has_one_row_each" "has_one_row_each" (defArgs (top 23)) (defBody (top 23)) (defScope (top 23)) .none kV14 dc14 pm14 an14 cd14 ct14), sl14⟩) (c14 : PySem.W.codeIn K cd14 "has_one_row_each" = true) (k14 : PySem.W.keepIn K (.ref f14) = true)
    (a15 : PySem.W.nsIn K mainGlobals "is_sheet" = some (some (.ref f15))) (l15 : K.lookup f15 = some ⟨oc15, od15, .func (PySem.W.fnOf "is_sheet" "is_sheet" (defArgs (top 24)) (defBody (top 24)) (defScope (top 24)) .none kV15 dc15 pm15 an15 cd15 ct15), sl15⟩) (c15 : PySem.W.codeIn K cd15 "is_sheet" = true) (k15 : PySem.W.keepIn K (.ref f15) = true)
    (a16 : PySem.W.nsIn K mainGlobals "signs_of" = some (some (.ref f16))) (l16 : K.lookup f16 = some ⟨oc16, od16, .func (PySem.W.fnOf "signs_of" "signs_of" (defArgs (top 25)) (defBody (top 25)) (defScope (top 25)) .none kV16 dc16 pm16 an16 cd16 ct16), sl16⟩) (c16 : PySem.W.codeIn K cd16 "signs_of" = true) (k16 : PySem.W.keepIn K (.ref f16) = true)
    (a17 : PySem.W.nsIn K mainGlobals "_law_cell" = some (some (.ref f17))) (l17 : K.lookup f17 = some ⟨oc17, od17, .func (PySem.W.fnOf "_law_cell" "_law_cell" (defArgs (top 27)) (defBody (top 27)) (defScope (top 27)) .none kV17 dc17 pm17 an17 cd17 ct17), sl17⟩) (c17 : PySem.W.codeIn K cd17 "_law_cell" = true) (k17 : PySem.W.keepIn K (.ref f17) = true)
    (a18 : PySem.W.nsIn K mainGlobals "_law_store" = some (some (.ref f18))) (l18 : K.lookup f18 = some ⟨oc18, od18, .func (PySem.W.fnOf "_law_store" "_law_store" (defArgs (top 28)) (defBody (top 28)) (defScope (top 28)) .none kV18 dc18 pm18 an18 cd18 ct18), sl18⟩) (c18 : PySem.W.codeIn K cd18 "_law_store" = true) (k18 : PySem.W.keepIn K (.ref f18) = true)
    (a19 : PySem.W.nsIn K mainGlobals "_law_take" = some (some (.ref f19))) (l19 : K.lookup f19 = some ⟨oc19, od19, .func (PySem.W.fnOf "_law_take" "_law_take" (defArgs (top 29)) (defBody (top 29)) (defScope (top 29)) .none kV19 dc19 pm19 an19 cd19 ct19), sl19⟩) (c19 : PySem.W.codeIn K cd19 "_law_take" = true) (k19 : PySem.W.keepIn K (.ref f19) = true)
    (a20 : PySem.W.nsIn K mainGlobals "_law_some_names" = some (some (.ref f20))) (l20 : K.lookup f20 = some ⟨oc20, od20, .func (PySem.W.fnOf "_law_some_names" "_law_some_names" (defArgs (top 30)) (defBody (top 30)) (defScope (top 30)) .none kV20 dc20 pm20 an20 cd20 ct20), sl20⟩) (c20 : PySem.W.codeIn K cd20 "_law_some_names" = true) (k20 : PySem.W.keepIn K (.ref f20) = true)
    (a21 : PySem.W.nsIn K mainGlobals "_law_flip" = some (some (.ref f21))) (l21 : K.lookup f21 = some ⟨oc21, od21, .func (PySem.W.fnOf "_law_flip" "_law_flip" (defArgs (top 31)) (defBody (top 31)) (defScope (top 31)) .none kV21 dc21 pm21 an21 cd21 ct21), sl21⟩) (c21 : PySem.W.codeIn K cd21 "_law_flip" = true) (k21 : PySem.W.keepIn K (.ref f21) = true)
    (a22 : PySem.W.nsIn K mainGlobals "_law_sheet" = some (some (.ref f22))) (l22 : K.lookup f22 = some ⟨oc22, od22, .func (PySem.W.fnOf "_law_sheet" "_law_sheet" (defArgs (top 32)) (defBody (top 32)) (defScope (top 32)) .none kV22 dc22 pm22 an22 cd22 ct22), sl22⟩) (c22 : PySem.W.codeIn K cd22 "_law_sheet" = true) (k22 : PySem.W.keepIn K (.ref f22) = true)
    (a23 : PySem.W.nsIn K mainGlobals "_law_shuffled" = some (some (.ref f23))) (l23 : K.lookup f23 = some ⟨oc23, od23, .func (PySem.W.fnOf "_law_shuffled" "_law_shuffled" (defArgs (top 35)) (defBody (top 35)) (defScope (top 35)) .none kV23 dc23 pm23 an23 cd23 ct23), sl23⟩) (c23 : PySem.W.codeIn K cd23 "_law_shuffled" = true) (k23 : PySem.W.keepIn K (.ref f23) = true)
    (a24 : PySem.W.nsIn K mainGlobals "_law_numbered" = some (some (.ref f24))) (l24 : K.lookup f24 = some ⟨oc24, od24, .func (PySem.W.fnOf "_law_numbered" "_law_numbered" (defArgs (top 36)) (defBody (top 36)) (defScope (top 36)) .none kV24 dc24 pm24 an24 cd24 ct24), sl24⟩) (c24 : PySem.W.codeIn K cd24 "_law_numbered" = true) (k24 : PySem.W.keepIn K (.ref f24) = true)
    (a25 : PySem.W.nsIn K mainGlobals "_law_rewired" = some (some (.ref f25))) (l25 : K.lookup f25 = some ⟨oc25, od25, .func (PySem.W.fnOf "_law_rewired" "_law_rewired" (defArgs (top 37)) (defBody (top 37)) (defScope (top 37)) .none kV25 dc25 pm25 an25 cd25 ct25), sl25⟩) (c25 : PySem.W.codeIn K cd25 "_law_rewired" = true) (k25 : PySem.W.keepIn K (.ref f25) = true)
    (a26 : PySem.W.nsIn K mainGlobals "_law_picked" = some (some (.ref f26))) (l26 : K.lookup f26 = some ⟨oc26, od26, .func (PySem.W.fnOf "_law_picked" "_law_picked" (defArgs (top 38)) (defBody (top 38)) (defScope (top 38)) .none kV26 dc26 pm26 an26 cd26 ct26), sl26⟩) (c26 : PySem.W.codeIn K cd26 "_law_picked" = true) (k26 : PySem.W.keepIn K (.ref f26) = true)
    (a27 : PySem.W.nsIn K mainGlobals "law" = some (some (.ref f27))) (l27 : K.lookup f27 = some ⟨oc27, od27, .func (PySem.W.fnOf "law" "law" (defArgs (top 39)) (defBody (top 39)) (defScope (top 39)) .none kV27 dc27 pm27 an27 cd27 ct27), sl27⟩) (c27 : PySem.W.codeIn K cd27 "law" = true) (k27 : PySem.W.keepIn K (.ref f27) = true)
    (z0 : PySem.W.nsIn K mainGlobals "len" = some none)
    (z1 : PySem.W.nsIn K mainGlobals "range" = some none)
    (z2 : PySem.W.nsIn K mainGlobals "max" = some none)
    (z3 : PySem.W.nsIn K mainGlobals "min" = some none)
    (z4 : PySem.W.nsIn K mainGlobals "int" = some none)
    (z5 : PySem.W.nsIn K mainGlobals "list" = some none)
    (z6 : PySem.W.nsIn K mainGlobals "str" = some none)
    (z7 : PySem.W.nsIn K mainGlobals "isinstance" = some none)
    (z8 : PySem.W.nsIn K mainGlobals "all" = some none)
    (z9 : PySem.W.nsIn K mainGlobals "set" = some none)
    (z10 : PySem.W.nsIn K mainGlobals "dict" = some none)
    (z11 : PySem.W.nsIn K mainGlobals "enumerate" = some none)
    (z12 : PySem.W.nsIn K mainGlobals "sorted" = some none)
    (z13 : PySem.W.nsIn K mainGlobals "tuple" = some none)
    (z14 : PySem.W.nsIn K mainGlobals "bool" = some none)
    (z15 : PySem.W.nsIn K mainGlobals "zip" = some none)
    (z16 : PySem.W.nsIn K mainGlobals "reversed" = some none)
    : ∃ fd : FuncData, (∀ (s : Shared) (v : Value), BindsTo s fd ⟨[v], []⟩ [("script", v)]) ∧ ∀ base : Heap, K.In base → base.Ns mainGlobals mg → L2.BMain base mg → FnOk l.prog w K mg base CX0 7 fa fd ["script"] (spLaw K TL0) := by
  have e := hfa.symm.trans (PySem.W.mg_of X G a27)
  cases e
  have T : Txt K mg TT := ⟨PySem.W.mg_none_of X G z0, PySem.W.mg_none_of X G z1, PySem.W.mg_none_of X G z2, PySem.W.mg_none_of X G z3, PySem.W.mg_none_of X G z4, PySem.W.mg_none_of X G z5, PySem.W.mg_none_of X G z6, PySem.W.mg_none_of X G z7, PySem.W.mg_none_of X G z8, PySem.W.mg_none_of X G z9, PySem.W.mg_none_of X G z10, PySem.W.mg_none_of X G z11, PySem.W.mg_none_of X G z12, PySem.W.mg_none_of X G z13, PySem.W.mg_none_of X G z14, PySem.W.mg_none_of X G z15, PySem.W.mg_none_of X G z16, ⟨_, PySem.W.mg_of X G cn0⟩, ⟨_, PySem.W.mg_of X G cn1⟩, ⟨_, PySem.W.mg_of X G cn2⟩, ⟨_, PySem.W.mg_of X G cn3⟩, ⟨_, PySem.W.mg_of X G cn4⟩, PySem.W.mg_of X G aT, tab⟩
  have F0 := fun_mk (st := top 6) l0 c0 k0
  have b0 := F0.binds (ps := ["thing"]) fun _ _ _ _ _ _ us hl => by obtain ⟨_, rfl⟩ := len_1 hl; rfl
  have m0 := PySem.W.mg_of X G a0
  have F1 := fun_mk (st := top 7) l1 c1 k1
  have b1 := F1.binds (ps := ["thing"]) fun _ _ _ _ _ _ us hl => by obtain ⟨_, rfl⟩ := len_1 hl; rfl
  have m1 := PySem.W.mg_of X G a1
  have F2 := fun_mk (st := top 8) l2 c2 k2
  have b2 := F2.binds (ps := ["thing"]) fun _ _ _ _ _ _ us hl => by obtain ⟨_, rfl⟩ := len_1 hl; rfl
  have m2 := PySem.W.mg_of X G a2
  have F3 := fun_mk (st := top 9) l3 c3 k3
  have b3 := F3.binds (ps := ["thing", "bound"]) fun _ _ _ _ _ _ us hl => by obtain ⟨_, _, rfl⟩ := len_2 hl; rfl
  have m3 := PySem.W.mg_of X G a3
  have F4 := fun_mk (st := top 10) l4 c4 k4
  have b4 := F4.binds (ps := ["thing", "many"]) fun _ _ _ _ _ _ us hl => by obtain ⟨_, _, rfl⟩ := len_2 hl; rfl
  have m4 := PySem.W.mg_of X G a4
  have F5 := fun_mk (st := top 11) l5 c5 k5
  have b5 := F5.binds (ps := ["things"]) fun _ _ _ _ _ _ us hl => by obtain ⟨_, rfl⟩ := len_1 hl; rfl
  have m5 := PySem.W.mg_of X G a5
  have F6 := fun_mk (st := top 12) l6 c6 k6
  have b6 := F6.binds (ps := ["standing", "place"]) fun _ _ _ _ _ _ us hl => by obtain ⟨_, _, rfl⟩ := len_2 hl; rfl
  have m6 := PySem.W.mg_of X G a6
  have F7 := fun_mk (st := top 14) l7 c7 k7
  have b7 := F7.binds (ps := ["start", "steps_of"]) fun _ _ _ _ _ _ us hl => by obtain ⟨_, _, rfl⟩ := len_2 hl; rfl
  have m7 := PySem.W.mg_of X G a7
  have F8 := fun_mk (st := top 17) l8 c8 k8
  have b8 := F8.binds (ps := ["thing", "wires", "many"]) fun _ _ _ _ _ _ us hl => by obtain ⟨_, _, _, rfl⟩ := len_3 hl; rfl
  have m8 := PySem.W.mg_of X G a8
  have F9 := fun_mk (st := top 18) l9 c9 k9
  have b9 := F9.binds (ps := ["thing", "wires", "many"]) fun _ _ _ _ _ _ us hl => by obtain ⟨_, _, _, rfl⟩ := len_3 hl; rfl
  have m9 := PySem.W.mg_of X G a9
  have F10 := fun_mk (st := top 19) l10 c10 k10
  have b10 := F10.binds (ps := ["thing"]) fun _ _ _ _ _ _ us hl => by obtain ⟨_, rfl⟩ := len_1 hl; rfl
  have m10 := PySem.W.mg_of X G a10
  have F11 := fun_mk (st := top 20) l11 c11 k11
  have b11 := F11.binds (ps := ["thing"]) fun _ _ _ _ _ _ us hl => by obtain ⟨_, rfl⟩ := len_1 hl; rfl
  have m11 := PySem.W.mg_of X G a11
  have F12 := fun_mk (st := top 21) l12 c12 k12
  have b12 := F12.binds (ps := ["sheet", "row", "name"]) fun _ _ _ _ _ _ us hl => by obtain ⟨_, _, _, rfl⟩ := len_3 hl; rfl
  have m12 := PySem.W.mg_of X G a12
  have F13 := fun_mk (st := top 22) l13 c13 k13
  have b13 := F13.binds (ps := ["sheet"]) fun _ _ _ _ _ _ us hl => by obtain ⟨_, rfl⟩ := len_1 hl; rfl
  have m13 := PySem.W.mg_of X G a13
  have F14 := fun_mk (st := top 23) l14 c14 k14
  have b14 := F14.binds (ps := ["sheet"]) fun _ _ _ _ _ _ us hl => by obtain ⟨_, rfl⟩ := len_1 hl; rfl
  have m14 := PySem.W.mg_of X G a14
  have F15 := fun_mk (st := top 24) l15 c15 k15
  have b15 := F15.binds (ps := ["thing"]) fun _ _ _ _ _ _ us hl => by obtain ⟨_, rfl⟩ := len_1 hl; rfl
  have m15 := PySem.W.mg_of X G a15
  have F16 := fun_mk (st := top 25) l16 c16 k16
  have b16 := F16.binds (ps := ["sheet"]) fun _ _ _ _ _ _ us hl => by obtain ⟨_, rfl⟩ := len_1 hl; rfl
  have m16 := PySem.W.mg_of X G a16
  have F17 := fun_mk (st := top 27) l17 c17 k17
  have b17 := F17.binds (ps := ["script", "k"]) fun _ _ _ _ _ _ us hl => by obtain ⟨_, _, rfl⟩ := len_2 hl; rfl
  have m17 := PySem.W.mg_of X G a17
  have F18 := fun_mk (st := top 28) l18 c18 k18
  have b18 := F18.binds (ps := ["cell"]) fun _ _ _ _ _ _ us hl => by obtain ⟨_, rfl⟩ := len_1 hl; rfl
  have m18 := PySem.W.mg_of X G a18
  have F19 := fun_mk (st := top 29) l19 c19 k19
  have b19 := F19.binds (ps := ["store", "many"]) fun _ _ _ _ _ _ us hl => by obtain ⟨_, _, rfl⟩ := len_2 hl; rfl
  have m19 := PySem.W.mg_of X G a19
  have F20 := fun_mk (st := top 30) l20 c20 k20
  have b20 := F20.binds (ps := ["store", "many"]) fun _ _ _ _ _ _ us hl => by obtain ⟨_, _, rfl⟩ := len_2 hl; rfl
  have m20 := PySem.W.mg_of X G a20
  have F21 := fun_mk (st := top 31) l21 c21 k21
  have b21 := F21.binds (ps := ["signs", "at"]) fun _ _ _ _ _ _ us hl => by obtain ⟨_, _, rfl⟩ := len_2 hl; rfl
  have m21 := PySem.W.mg_of X G a21
  have F22 := fun_mk (st := top 32) l22 c22 k22
  have b22 := F22.binds (ps := ["store", "most"]) fun _ _ _ _ _ _ us hl => by obtain ⟨_, _, rfl⟩ := len_2 hl; rfl
  have m22 := PySem.W.mg_of X G a22
  have F23 := fun_mk (st := top 35) l23 c23 k23
  have b23 := F23.binds (ps := ["store", "some"]) fun _ _ _ _ _ _ us hl => by obtain ⟨_, _, rfl⟩ := len_2 hl; rfl
  have m23 := PySem.W.mg_of X G a23
  have F24 := fun_mk (st := top 36) l24 c24 k24
  have b24 := F24.binds (ps := ["store", "sheet"]) fun _ _ _ _ _ _ us hl => by obtain ⟨_, _, rfl⟩ := len_2 hl; rfl
  have m24 := PySem.W.mg_of X G a24
  have F25 := fun_mk (st := top 37) l25 c25 k25
  have b25 := F25.binds (ps := ["store", "sheet"]) fun _ _ _ _ _ _ us hl => by obtain ⟨_, _, rfl⟩ := len_2 hl; rfl
  have m25 := PySem.W.mg_of X G a25
  have F26 := fun_mk (st := top 38) l26 c26 k26
  have b26 := F26.binds (ps := ["signs", "places"]) fun _ _ _ _ _ _ us hl => by obtain ⟨_, _, rfl⟩ := len_2 hl; rfl
  have m26 := PySem.W.mg_of X G a26
  have F27 := fun_mk (st := top 39) l27 c27 k27
  have b27 := F27.binds (ps := ["script"]) fun _ _ _ _ _ _ us hl => by obtain ⟨_, rfl⟩ := len_1 hl; rfl
  have m27 := PySem.W.mg_of X G a27
  refine ⟨PySem.W.fnOf "law" "law" (defArgs (top 39)) (defBody (top 39)) (defScope (top 39)) .none kV27 dc27 pm27 an27 cd27 ct27, fun s v => .of_eq rfl, fun base KB _ BM => ?_⟩
  have CT0 := PySem.W.codeHd_of_K KB h13
  have FC13 : FunC K "rows_found" "rows_found" (top 22) f13 _ cc13 := ⟨_, _, _, _, _, _, _, _, rfl, l13, c13⟩
  have g17 : Fn l.prog w K mg base "_law_cell" ["script", "k"] 1 (spCell K) := ⟨f17, _, ok_cell F17 T, m17, k17, b17⟩
  have g18 : Fn l.prog w K mg base "_law_store" ["cell"] 1 spStore := ⟨f18, _, ok_store F18 T, m18, k18, b18⟩
  have g19 : Fn l.prog w K mg base "_law_take" ["store", "many"] 1 spDraw := ⟨f19, _, ok_take F19 T, m19, k19, b19⟩
  have g20 : Fn l.prog w K mg base "_law_some_names" ["store", "many"] 2 spSomeN := ⟨f20, _, ok_someN F20 T g19, m20, k20, b20⟩
  have g21 : Fn l.prog w K mg base "_law_flip" ["signs", "at"] 1 spTurned := ⟨f21, _, ok_flip F21 T, m21, k21, b21⟩
  have g22 : Fn l.prog w K mg base "_law_sheet" ["store", "most"] 3 spSheet := ⟨f22, _, ok_sheet F22 T g19 g20 g21, m22, k22, b22⟩
  have g23 : Fn l.prog w K mg base "_law_shuffled" ["store", "some"] 2 spShuf := ⟨f23, _, ok_shuf F23 T g19, m23, k23, b23⟩
  have g24 : Fn l.prog w K mg base "_law_numbered" ["store", "sheet"] 3 spNumb := ⟨f24, _, ok_numb F24 T g23, m24, k24, b24⟩
  have g25 : Fn l.prog w K mg base "_law_rewired" ["store", "sheet"] 3 spRew := ⟨f25, _, ok_rew F25 T g23, m25, k25, b25⟩
  have g26 : Fn l.prog w K mg base "_law_picked" ["signs", "places"] 1 spPick := ⟨f26, _, ok_picked F26 T, m26, k26, b26⟩
  have g0 : Fn l.prog w K mg base "is_name" ["thing"] 1 spName := ⟨f0, _, ok_name F0 T, m0, k0, b0⟩
  have g5 : Fn l.prog w K mg base "are_unlike_names" ["things"] 2 spUnlike := ⟨f5, _, ok_unlike F5 T g0, m5, k5, b5⟩
  have g4 : Fn l.prog w K mg base "is_row" ["thing", "many"] 1 spRow := ⟨f4, _, ok_row F4 T, m4, k4, b4⟩
  have g10 : Fn l.prog w K mg base "has_wires" ["thing"] 3 spForm := ⟨f10, _, ok_wiresH F10 T g5 g4, m10, k10, b10⟩
  have g1 : Fn l.prog w K mg base "is_pair" ["thing"] 1 spPair := ⟨f1, _, ok_pair F1 T, m1, k1, b1⟩
  have g2 : Fn l.prog w K mg base "is_whole" ["thing"] 1 spWhole := ⟨f2, _, ok_whole F2 T, m2, k2, b2⟩
  have g3 : Fn l.prog w K mg base "is_number_below" ["thing", "bound"] 2 spBelow := ⟨f3, _, ok_below F3 T g2, m3, k3, b3⟩
  have g8 : Fn l.prog w K mg base "is_turn" ["thing", "wires", "many"] 3 spTurn := ⟨f8, _, ok_turn F8 T g1 g3, m8, k8, b8⟩
  have g9 : Fn l.prog w K mg base "is_node" ["thing", "wires", "many"] 4 spNode := ⟨f9, _, ok_node F9 T g8, m9, k9, b9⟩
  have g11 : Fn l.prog w K mg base "has_sheet_form" ["thing"] 5 spForm := ⟨f11, _, ok_form F11 T g10 g9, m11, k11, b11⟩
  have g7 : Fn l.prog w K mg base "found_from" ["start", "steps_of"] 2 (spFound l.prog w K mg base 1) := ⟨f7, _, ok_found F7 T, m7, k7, b7⟩
  have g6 : Fn l.prog w K mg base "turned_at" ["standing", "place"] 1 spTurned := ⟨f6, _, ok_turned F6 T, m6, k6, b6⟩
  have g12 : Fn l.prog w K mg base "row_behind" ["sheet", "row", "name"] 2 spBehind := ⟨f12, _, ok_behind F12 T g6, m12, k12, b12⟩
  have g13 : Fn l.prog w K mg base "rows_found" ["sheet"] 3 (spRows TL0) := ⟨f13, _, ok_rows FC13 T CT0 BM g7 g12, m13, k13, b13⟩
  have g14 : Fn l.prog w K mg base "has_one_row_each" ["sheet"] 4 (spIsSh TL0) := ⟨f14, _, ok_oneRow F14 T g13 g12, m14, k14, b14⟩
  have g15 : Fn l.prog w K mg base "is_sheet" ["thing"] 6 (spIsSh TL0) := ⟨f15, _, ok_issheet F15 T g11 g14, m15, k15, b15⟩
  have g16 : Fn l.prog w K mg base "signs_of" ["sheet"] 4 (spSigns TL0) := ⟨f16, _, ok_signs F16 T g13, m16, k16, b16⟩
  exact ok_law31 F27 T g17 g18 g19 g22 g23 g24 g25 g26 g15 g16
theorem walk {l : PySem.W.OpenLaw} {q : Program} {loose : List Str} {XP : (Str → Option Value) → Heap → Prop} {d : DefRec} {K : Params → PySem.W.Frag} {as : List Addr} {e : ∀ P, as = (K P).map (·.1)} {TL0 : Addr} (hn : l.most = some 63) (hdf : d.params.defaults = []) (ok : ∀ w : World, makersOk (K w.params) [TL0] = true)
    (F : ∀ (w : World) (mg : Str → Option Value) (fa : Addr) (h : Heap), (K w.params).In h → h.Ns mainGlobals mg → mg d.name = some (.ref fa) →
      ∃ fd : FuncData, (∀ (s : Shared) (u : Value), BindsTo s fd ⟨[u], []⟩ [("script", u)]) ∧ ∀ base : Heap, (K w.params).In base → base.Ns mainGlobals mg → L2.BMain base mg → FnOk l.prog w (K w.params) mg base CX0 7 fa fd ["script"] (spLaw (K w.params) TL0)) :
    PySem.W.WalkO q loose XP (PySem.W.kmHook K as e [TL0]).says l.row.toRowW d [] (fun f vs => PySem.call f vs) :=
  L2.walk_ofM (n := 63) (k := 7) (x := "script") (CX := fun _ => CX0) (sp := fun w => spLaw (K w.params) TL0) hn (by decide) hdf ⟨rfl, by decide, by decide⟩ ok F (fun _ _ a ns hl hT hS => ⟨a, ns, rfl, hS, hl, (.inl (hT _ (by simp))), fun _ => rfl⟩) fun _ _ _ _ _ z => z
end K2
open PySem PySem.W PyProof.Rows
set_option maxRecDepth 100000 in
set_option maxHeartbeats 0 in
theorem PySem.Challenge.cw_anydelay_k31_whole_sheets_otherwise_holds : PySem.Challenge.rw_anydelay_k31_whole_sheets_otherwise.Holds := by
  w_on; o_law; k_head; (case hw => w_witness2)
  k_fill
  refine K2.walk (l := PySem.Challenge.rw_anydelay_k31_whole_sheets_otherwise) rfl rfl (fun w => by kernel_rfl) ?F
  case F =>
    intro w mg fa h KX G hmg
    refine' K2.all_mk KX G hmg ?aT ?tab ?cn0 ?cn1 ?cn2 ?cn3 ?cn4 ?a0 ?l0 ?c0 ?k0 ?a1 ?l1 ?c1 ?k1 ?a2 ?l2 ?c2 ?k2 ?a3 ?l3 ?c3 ?k3 ?a4 ?l4 ?c4 ?k4 ?a5 ?l5 ?c5 ?k5 ?a6 ?l6 ?c6 ?k6 ?a7 ?l7 ?c7 ?k7 ?a8 ?l8 ?c8 ?k8 ?a9 ?l9 ?c9 ?k9 ?a10 ?l10 ?c10 ?k10 ?a11 ?l11 ?c11 ?k11 ?a12 ?l12 ?c12 ?k12 ?a13 ?l13 ?c13 ?k13 ?h13 ?a14 ?l14 ?c14 ?k14 ?a15 ?l15 ?c15 ?k15 ?a16 ?l16 ?c16 ?k16 ?a17 ?l17 ?c17 ?k17 ?a18 ?l18 ?c18 ?k18 ?a19 ?l19 ?c19 ?k19 ?a20 ?l20 ?c20 ?k20 ?a21 ?l21 ?c21 ?k21 ?a22 ?l22 ?c22 ?k22 ?a23 ?l23 ?c23 ?k23 ?a24 ?l24 ?c24 ?k24 ?a25 ?l25 ?c25 ?k25 ?a26 ?l26 ?c26 ?k26 ?a27 ?l27 ?c27 ?k27 ?z0 ?z1 ?z2 ?z3 ?z4 ?z5 ?z6 ?z7 ?z8 ?z9 ?z10 ?z11 ?z12 ?z13 ?z14 ?z15 ?z16
    (case aT => k_is)
    (case tab => first | rfl | decide | decide +kernel)
    (case cn0 => k_is)
    (case cn1 => k_is)
    (case cn2 => k_is)
    (case cn3 => k_is)
    (case cn4 => k_is)
    (case a0 => k_is); (case l0 => k_is); (case c0 => k_is); (case k0 => k_is)
    (case a1 => k_is); (case l1 => k_is); (case c1 => k_is); (case k1 => k_is)
    (case a2 => k_is); (case l2 => k_is); (case c2 => k_is); (case k2 => k_is)
    (case a3 => k_is); (case l3 => k_is); (case c3 => k_is); (case k3 => k_is)
    (case a4 => k_is); (case l4 => k_is); (case c4 => k_is); (case k4 => k_is)
    (case a5 => k_is); (case l5 => k_is); (case c5 => k_is); (case k5 => k_is)
    (case a6 => k_is); (case l6 => k_is); (case c6 => k_is); (case k6 => k_is)
    (case a7 => k_is); (case l7 => k_is); (case c7 => k_is); (case k7 => k_is)
    (case a8 => k_is); (case l8 => k_is); (case c8 => k_is); (case k8 => k_is)
    (case a9 => k_is); (case l9 => k_is); (case c9 => k_is); (case k9 => k_is)
    (case a10 => k_is); (case l10 => k_is); (case c10 => k_is); (case k10 => k_is)
    (case a11 => k_is); (case l11 => k_is); (case c11 => k_is); (case k11 => k_is)
    (case a12 => k_is); (case l12 => k_is); (case c12 => k_is); (case k12 => k_is)
    (case a13 => k_is); (case l13 => k_is); (case c13 => k_is); (case k13 => k_is)
    (case h13 => kernel_rfl)
    (case a14 => k_is); (case l14 => k_is); (case c14 => k_is); (case k14 => k_is)
    (case a15 => k_is); (case l15 => k_is); (case c15 => k_is); (case k15 => k_is)
    (case a16 => k_is); (case l16 => k_is); (case c16 => k_is); (case k16 => k_is)
    (case a17 => k_is); (case l17 => k_is); (case c17 => k_is); (case k17 => k_is)
    (case a18 => k_is); (case l18 => k_is); (case c18 => k_is); (case k18 => k_is)
    (case a19 => k_is); (case l19 => k_is); (case c19 => k_is); (case k19 => k_is)
    (case a20 => k_is); (case l20 => k_is); (case c20 => k_is); (case k20 => k_is)
    (case a21 => k_is); (case l21 => k_is); (case c21 => k_is); (case k21 => k_is)
    (case a22 => k_is); (case l22 => k_is); (case c22 => k_is); (case k22 => k_is)
    (case a23 => k_is); (case l23 => k_is); (case c23 => k_is); (case k23 => k_is)
    (case a24 => k_is); (case l24 => k_is); (case c24 => k_is); (case k24 => k_is)
    (case a25 => k_is); (case l25 => k_is); (case c25 => k_is); (case k25 => k_is)
    (case a26 => k_is); (case l26 => k_is); (case c26 => k_is); (case k26 => k_is)
    (case a27 => k_is); (case l27 => k_is); (case c27 => k_is); (case k27 => k_is)
    (case z0 => k_is)
    (case z1 => k_is)
    (case z2 => k_is)
    (case z3 => k_is)
    (case z4 => k_is)
    (case z5 => k_is)
    (case z6 => k_is)
    (case z7 => k_is)
    (case z8 => k_is)
    (case z9 => k_is)
    (case z10 => k_is)
    (case z11 => k_is)
    (case z12 => k_is)
    (case z13 => k_is)
    (case z14 => k_is)
    (case z15 => k_is)
    (case z16 => k_is)
