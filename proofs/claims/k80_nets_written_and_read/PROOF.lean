import PyProof.Rows.All
import Wide.All
import OpenK.AllK
import Wide.FinOn
import Lean
import PyProof.EqAt
import PyProof.EqKinds
import PyProof.TupleCall
import PyProof.NeKinds
import KE.KTabLook
import KE.KIntText
import KE.KUnpack
import PyProof.StrBlock2
import PyProof.ZipIter
import PyProof.Draws
import PyProof.AttrMissHeap
import PyProof.DictUpdate
import PyProof.ListNew
import PyProof.FactsAll.dict_1
import PyProof.Rows.DictSet
import PyProof.Rows.StrInSeq3
import PyProof.FactsAll.list_1
import PyProof.ForAppend
import KE.KRevSl
import PyProof.Rows.StrNews
import PyProof.StrLawsTight
import PyProof.CompUse
import PySem.Challenge.RW_anydelay_k80_nets_written_and_read
noncomputable section
-- CHANGE: your row's module here, as the last of these rows
set_option Elab.async false
set_option linter.all false
set_option maxRecDepth 100000
namespace L2
open PySem PySem.Spec PyProof.Rows

abbrev Key := Sum Int Str
noncomputable def keyIs : Key → Value → Bool
  | .inl k, v => Value.isInt k v
  | .inr x, v => Value.isStrOf x v
noncomputable def keyH (w : World) : Key → Int
  | .inl k => hashInt k
  | .inr x => hashStr w x
theorem keyIs_shape : ∀ {k : Key} {v : Value}, keyIs k v = true → (∃ i t, k = Sum.inl i ∧ v = Value.int i t) ∨ (∃ x t, k = Sum.inr x ∧ v = Value.str x t)
  | .inl i, v, h => by
    obtain ⟨t, e⟩ := Value.isInt_shape (k := i) (v := v) h
    exact .inl ⟨i, t, rfl, e⟩
  | .inr x, v, h => by
    obtain ⟨t, e⟩ := Value.isStrOf_shape (x := x) (v := v) h
    exact .inr ⟨x, t, rfl, e⟩
theorem keyIs_int (i : Int) (t : Tok) : keyIs (.inl i) (.int i t) = true := by simp [keyIs, Value.isInt]
theorem keyIs_str (x : Str) (t : Tok) : keyIs (.inr x) (.str x t) = true := by simp [keyIs, Value.isStrOf]
theorem key_ll (a b : Int) : decide ((Sum.inl a : Key) = Sum.inl b) = (a == b) := by
  by_cases e : a = b
  · subst e; simp
  · have h : ¬ (Sum.inl a : Key) = Sum.inl b := fun q => e (Sum.inl.inj q)
    rw [decide_eq_false h]
    exact (beq_eq_false_iff_ne.mpr e).symm
theorem key_rr (a b : Str) : decide ((Sum.inr a : Key) = Sum.inr b) = decide (a = b) := by
  by_cases e : a = b
  · subst e; simp
  · have h : ¬ (Sum.inr a : Key) = Sum.inr b := fun q => e (Sum.inr.inj q)
    rw [decide_eq_false h, decide_eq_false e]
theorem key_lr (a : Int) (b : Str) : decide ((Sum.inl a : Key) = Sum.inr b) = false := decide_eq_false (fun q => nomatch q)
theorem key_rl (a : Str) (b : Int) : decide ((Sum.inr a : Key) = Sum.inl b) = false := decide_eq_false (fun q => nomatch q)

noncomputable def mixKind (prog : Program) (w : World) : PySem.KeyKind prog w Key where
  is := keyIs
  hash := keyH w
  inj := fun v a b ha hb => by
    rcases keyIs_shape ha with ⟨i, t, rfl, rfl⟩ | ⟨x, t, rfl, rfl⟩
    · rcases keyIs_shape hb with ⟨j, u, rfl, e⟩ | ⟨y, u, rfl, e⟩
      · injection e with e1 _; rw [e1]
      · exact nomatch e
    · rcases keyIs_shape hb with ⟨j, u, rfl, e⟩ | ⟨y, u, rfl, e⟩
      · exact nomatch e
      · injection e with e1 _; rw [e1]
  byValue := fun k v h => by
    rcases keyIs_shape h with ⟨i, t, rfl, rfl⟩ | ⟨x, t, rfl, rfl⟩ <;> rfl
  pyHash := fun hv h => by
    rcases keyIs_shape hv with ⟨i, t, rfl, rfl⟩ | ⟨x, t, rfl, rfl⟩
    · exact wpAny_pyHash_int h
    · exact wpAny_pyHash_str h
  eqBool := fun hu hv h => by
    rcases keyIs_shape hu with ⟨i, t, rfl, rfl⟩ | ⟨x, t, rfl, rfl⟩
    · rcases keyIs_shape hv with ⟨j, u, rfl, rfl⟩ | ⟨y, u, rfl, rfl⟩
      · rw [key_ll] at h; exact wpAny_eqBool_int h
      · rw [key_lr] at h; exact SeqAt.EqAt.int_str i t y u _ _ _ _ h
    · rcases keyIs_shape hv with ⟨j, u, rfl, rfl⟩ | ⟨y, u, rfl, rfl⟩
      · rw [key_rl] at h; exact SeqAt.EqAt.str_int x t j u _ _ _ _ h
      · rw [key_rr] at h; exact wpAny_eqBool_str h
  «strs» := fun k x t v h => by
    rcases keyIs_shape h with ⟨i, u, rfl, e⟩ | ⟨y, u, rfl, e⟩
    · exact nomatch e
    · injection e with e1 _
      subst e1
      cases v <;> rfl

theorem mixKind_int (prog : Program) (w : World) (i : Int) (t : Tok) : (mixKind prog w).is (.inl i) (.int i t) = true := keyIs_int i t
theorem mixKind_str (prog : Program) (w : World) (x : Str) (t : Tok) : (mixKind prog w).is (.inr x) (.str x t) = true := keyIs_str x t
end L2

namespace L2
open PySem PySem.Spec PyProof.Rows

inductive V where
  | non | bl (b : Bool) | int (i : Int) | str (x : Str) | byt (b : Array UInt8) | flt (b : UInt64) | ref (a : Addr) | ty (n : String)
  deriving DecidableEq

noncomputable def RelV : V → Value → Prop
  | .non, u => u = Value.none
  | .bl b, u => u = Value.bool b
  | .int i, u => ∃ t, u = Value.int i t
  | .str x, u => ∃ t, u = Value.str x t
  | .byt b, u => ∃ t, u = Value.bytes b t
  | .flt b, u => ∃ t, u = Value.float b t
  | .ref a, u => u = Value.ref a
  | .ty n, u => u = Value.type n

abbrev Vals : List V → List Value → Prop := Paired RelV
theorem Vals.length {xs : List V} {us : List Value} (r : Vals xs us) : xs.length = us.length := Paired.length r
theorem Vals.get : ∀ {xs : List V} {us : List Value} {i : Nat} {x : V}, Vals xs us → xs[i]? = some x → ∃ u, us[i]? = some u ∧ RelV x u
  | _, _, _, _, .nil, e => by simp at e
  | _, _, 0, _, .cons r _, e => by simp at e; subst e; exact ⟨_, rfl, r⟩
  | _, _, i + 1, x, .cons _ t, e => by
    obtain ⟨u, h1, h2⟩ := Vals.get (i := i) (x := x) t (by simpa using e)
    exact ⟨u, by simpa using h1, h2⟩
theorem Vals.set {x : V} {u : Value} (r : RelV x u) : ∀ {xs : List V} {us : List Value} (i : Nat), Vals xs us → Vals (xs.set i x) (us.set i u)
  | _, _, _, .nil => .nil
  | _, _, 0, .cons _ t => .cons r t
  | _, _, i + 1, .cons q t => .cons q (Vals.set r i t)
theorem Vals.append : ∀ {xs ys : List V} {us ws : List Value}, Vals xs us → Vals ys ws → Vals (xs ++ ys) (us ++ ws)
  | _, _, _, _, .nil, s => s
  | _, _, _, _, .cons r t, s => .cons r (Vals.append t s)
theorem Vals.take : ∀ {xs : List V} {us : List Value} (n : Nat), Vals xs us → Vals (xs.take n) (us.take n)
  | _, _, 0, _ => .nil
  | _, _, _ + 1, .nil => .nil
  | _, _, n + 1, .cons r t => .cons r (Vals.take n t)
theorem Vals.drop : ∀ {xs : List V} {us : List Value} (n : Nat), Vals xs us → Vals (xs.drop n) (us.drop n)
  | _, _, 0, r => r
  | _, _, _ + 1, .nil => .nil
  | _, _, n + 1, .cons _ t => Vals.drop n t

noncomputable def RelO : Option V → Option Value → Prop
  | some v, some u => RelV v u
  | none, none => True
  | _, _ => False
noncomputable def KV {κ : Type} : List (κ × V) → List (κ × Value) → Prop := Paired fun (p : κ × V) (q : κ × Value) => p.1 = q.1 ∧ RelV p.2 q.2

noncomputable def kV : Key → V
  | .inl i => .int i
  | .inr x => .str x

inductive HO where
  /-- a list -/
  | lst (xs : List V)
  /-- a tuple (never changes) -/
  | tup (xs : List V)
  /-- a dict whose keys are ints and texts; one whose keys are tuples of ints and texts (the empty one is both) -/
  | dK (kvs : List (Key × V)) | dT (kvs : List (List Key × V))
  /-- a set of ints: its members, its size -/
  | set (S : Int → Bool) (n : Nat)
  /-- an instance of the class at C, its dict at dx, its attributes -/
  | ins (C dx : Addr) (fs : List (Str × V))
  /-- the dict of the instance at x -/
  | own (x : Addr)
  /-- the dict of an exception -/
  | xd (fs : List (Str × V))
  /-- a bound method, f of x -/
  | met (f x : Addr)
  /-- a range object lo, lo + 1, .. below hi -/
  | rng (lo hi : Int)
  /-- a thing that is known to the object (the script; a dict while a loop walks it): read, never written while it is so -/
  | frz (o : Obj) (u : HO)
  /-- a code object's table -/
  | tbl (ps : Array Value)
  /-- any other thing, by what is true of its one object (a def of one's own: SetO a S n := HO.ext fun h => ..) -/
  | ext (φ : Heap → Prop)

abbrev Hp := Addr → Option HO
noncomputable def upd (H : Hp) (a : Addr) (o : HO) : Hp := fun b => if b = a then some o else H b
theorem upd_same {H : Hp} {a : Addr} {o : HO} : upd H a o a = some o := by unfold upd; rw [if_pos rfl]
theorem upd_ne {H : Hp} {a b : Addr} {o : HO} (h : b ≠ a) : upd H a o b = H b := by unfold upd; rw [if_neg h]
theorem ne_of {H : Hp} {a b : Addr} {o u : HO} (h : H a = some o) (h' : H b = some u) (d : o ≠ u) : a ≠ b := by
  intro e; subst e; rw [h] at h'; exact d (Option.some.inj h')
theorem ne_of_none {H : Hp} {a b : Addr} {o : HO} (h : H a = some o) (h' : H b = none) : a ≠ b := by
  intro e; subst e; rw [h] at h'; cases h'

section
variable (P : Program) (w : World)
noncomputable def ObjOk (H : Hp) (h : Heap) (a : Addr) : HO → Prop
  | .lst xs => xs.length ≤ sizeLine ∧ ∃ (its : List Value) (n : Nat), Vals xs its ∧ h.get? a = some { cls := .type "list", data := .seq its.toArray n }
  | .tup xs => xs.length ≤ sizeLine ∧ ∃ its : List Value, Vals xs its ∧ IsTup h a its.toArray
  | .dK kvs => kvs.length ≤ sizeLine ∧ (a == sysModules) = false ∧ ∃ vs, KV kvs vs ∧ h.DictOf (mixKind P w) a vs
  | .dT kvs => kvs.length ≤ sizeLine ∧ (a == sysModules) = false ∧ ∃ xs : List (List Key × Addr × Value),
      Paired (fun (p : List Key × V) (q : List Key × Addr × Value) => p.1 = q.1 ∧ H q.2.1 = some (.tup (p.1.map kV)) ∧ RelV p.2 q.2.2) kvs xs ∧
      ∃ o es ep, h.get? a = some o ∧ o.ExactDict ∧ o.data = .dict es ep ∧ es.toList = xs.map (entryOfKey (tupleKind (mixKind P w))) ∧ (xs.map (·.1)).Nodup
  | .set S n => h.SetOf (intKind P w) a S n
  | .ins C dx fs => H dx = some (.own a) ∧ fs.length ≤ 1000 ∧ dx ≠ a ∧ h.get? a = some (PySem.W.instObj C dx) ∧
      ∃ mA, h.Ns1 dx mA ∧ (∀ f, RelO (fs.lookup f) (mA f)) ∧ PySem.Within mA (fs.map (·.1))
  | .own _ => ∃ o, h.get? a = some o
  | .xd fs => ∃ mA, h.Ns1 a mA ∧ ∀ f, RelO (fs.lookup f) (mA f)
  | .rng lo hi => ∃ t u v, h.get? a = some { cls := .type "range", data := .fields #[.int lo t, .int hi u, .int 1 v] }
  | .frz o u => h.get? a = some o ∧ ObjOk H h a u
  | .tbl ps => h.get? a = some { cls := .none, data := .fields ps }
  | .met f x => h.get? a = some (PySem.W.methodObj (.ref f) (.ref x))
  | .ext φ => φ h ∧ (∃ o, h.get? a = some o) ∧ ∀ h1 h2 : Heap, φ h1 → (∀ o, h1.get? a = some o → h2.get? a = some o) → φ h2
noncomputable def HOk (H : Hp) (h : Heap) : Prop := ∀ a o, H a = some o → ObjOk P w H h a o
end

section
variable {P : Program} {w : World} {H H' : Hp} {h h' : Heap} {a : Addr} {o : HO}
theorem ObjOk.lt (x : ObjOk P w H h a o) : a < h.objs.size := by
  cases o with
  | lst xs => obtain ⟨_, _, _, _, e⟩ := x; exact Heap.lt_size e
  | tup xs => obtain ⟨_, _, _, p⟩ := x; exact p.lt
  | dK kvs => obtain ⟨_, _, _, _, o, _, _, e, _⟩ := x; exact Heap.lt_size e
  | dT kvs => obtain ⟨_, _, _, _, o, _, _, e, _⟩ := x; exact Heap.lt_size e
  | set S n => obtain ⟨o, _, _, _, e, _⟩ := x; exact Heap.lt_size e
  | ins C dx fs => obtain ⟨_, _, _, e, _⟩ := x; exact Heap.lt_size e
  | own y => obtain ⟨_, e⟩ := x; exact Heap.lt_size e
  | xd fs => obtain ⟨_, ⟨_, _, _, e, _⟩, _⟩ := x; exact Heap.lt_size e
  | rng lo hi => obtain ⟨_, _, _, e⟩ := x; exact Heap.lt_size e
  | frz ob u => obtain ⟨e, _⟩ := x; exact Heap.lt_size e
  | tbl ps => exact Heap.lt_size (show h.get? a = some _ from x)
  | met f y => exact Heap.lt_size (show h.get? a = some _ from x)
  | ext φ => obtain ⟨_, ⟨_, e⟩, _⟩ := x; exact Heap.lt_size e
theorem Paired.mapP {α β : Type} {F G : α → β → Prop} : ∀ {l₁ : List α} {l₂ : List β}, Paired F l₁ l₂ → (∀ a b, F a b → G a b) → Paired G l₁ l₂
  | _, _, .nil, _ => .nil
  | _, _, .cons r t, f => .cons (f _ _ r) (Paired.mapP t f)
theorem ObjOk.stay (x : ObjOk P w H h a o) (k : ∀ b u, (b = a ∨ H b = some (.own a)) → h.get? b = some u → h'.get? b = some u)
    (ho : ∀ b, H b = some (.own a) → H' b = some (.own a)) (ht : ∀ b xs, H b = some (.tup xs) → H' b = some (.tup xs)) : ObjOk P w H' h' a o := by
  induction o with
  | lst xs => obtain ⟨z, its, n, r, e⟩ := x; exact ⟨z, its, n, r, k _ _ (.inl rfl) e⟩
  | tup xs => obtain ⟨z, its, r, ob, e, c⟩ := x; exact ⟨z, its, r, ob, k _ _ (.inl rfl) e, c⟩
  | dK kvs => obtain ⟨z, y, vs, r, ob, es, ep, e, c⟩ := x; exact ⟨z, y, vs, r, ob, es, ep, k _ _ (.inl rfl) e, c⟩
  | dT kvs =>
    obtain ⟨z, y, xs, r, ob, es, ep, e, c⟩ := x
    exact ⟨z, y, xs, Paired.mapP r fun p q z => ⟨z.1, ht _ _ z.2.1, z.2.2⟩, ob, es, ep, k _ _ (.inl rfl) e, c⟩
  | set S n => obtain ⟨ob, es, ep, t, e, c⟩ := x; exact ⟨ob, es, ep, t, k _ _ (.inl rfl) e, c⟩
  | ins C dx fs =>
    obtain ⟨d, z, ne, e, mA, ⟨od, es, ep, e2, c⟩, r⟩ := x
    exact ⟨ho _ d, z, ne, k _ _ (.inl rfl) e, mA, ⟨od, es, ep, k _ _ (.inr d) e2, c⟩, r⟩
  | own y => obtain ⟨ob, e⟩ := x; exact ⟨ob, k _ _ (.inl rfl) e⟩
  | xd fs => obtain ⟨mA, ⟨od, es, ep, e, c⟩, r⟩ := x; exact ⟨mA, ⟨od, es, ep, k _ _ (.inl rfl) e, c⟩, r⟩
  | rng lo hi => obtain ⟨t, u, v, e⟩ := x; exact ⟨t, u, v, k _ _ (.inl rfl) e⟩
  | frz ob u ih => obtain ⟨e, q⟩ := x; exact ⟨k _ _ (.inl rfl) e, ih q⟩
  | tbl ps =>
    have e : h.get? a = some { cls := .none, data := .fields ps } := x
    show h'.get? a = some { cls := .none, data := .fields ps }
    exact k a _ (.inl rfl) e
  | met f y =>
    have e : h.get? a = some (PySem.W.methodObj (.ref f) (.ref y)) := x
    show h'.get? a = some (PySem.W.methodObj (.ref f) (.ref y))
    exact k a _ (.inl rfl) e
  | ext φ => obtain ⟨p, ⟨o, e⟩, st⟩ := x; exact ⟨st _ _ p fun o q => k _ _ (.inl rfl) q, ⟨o, k _ _ (.inl rfl) e⟩, st⟩
theorem HOk.lt (x : HOk P w H h) (e : H a = some o) : a < h.objs.size := (x a o e).lt
theorem HOk.fresh (x : HOk P w H h) (e : h.objs.size ≤ a) : H a = none := by
  cases q : H a with
  | none => rfl
  | some u => exact absurd (Nat.lt_of_lt_of_le (x.lt q) e) (Nat.lt_irrefl _)
theorem HOk.kept (x : HOk P w H h) (k : ∀ b u, h.get? b = some u → h'.get? b = some u) : HOk P w H h' := fun a o e =>
  (x a o e).stay (fun b u _ q => k b u q) (fun _ q => q) fun _ _ q => q
theorem HOk.laid (x : HOk P w H h) (k : ∀ b u, h.get? b = some u → h'.get? b = some u) (hp : h.objs.size ≤ a) (new : ObjOk P w (upd H a o) h' a o) : HOk P w (upd H a o) h' := fun b u e => by
  have hn := x.fresh hp
  by_cases hb : b = a
  · subst hb; rw [upd_same] at e; cases e; exact new
  · rw [upd_ne hb] at e
    exact (x b u e).stay (fun c v _ q => k c v q) (fun c q => by rw [upd_ne (ne_of_none q hn)]; exact q) fun c xs q => by rw [upd_ne (ne_of_none q hn)]; exact q
end

noncomputable def Rd (H : Hp) (a : Addr) (u : HO) : Prop := H a = some u ∨ ∃ o, H a = some (.frz o u)
theorem Rd.ok {P : Program} {w : World} {H : Hp} {h : Heap} {a : Addr} {u : HO} (r : Rd H a u) (x : HOk P w H h) : ObjOk P w H h a u := by
  rcases r with r | ⟨o, r⟩
  · exact x a u r
  · obtain ⟨_, q⟩ := x a _ r
    exact q
noncomputable def Mut : Option HO → Prop
  | some (.lst _) => True
  | some (.dK _) => True
  | some (.dT _) => True
  | some (.set _ _) => True
  | some (.ins _ _ _) => True
  | some (.ext _) => True
  | _ => False
section
variable {P : Program} {w : World} {H : Hp} {h h' : Heap} {x e : Addr} {o' : HO}
theorem HOk.write (ok : HOk P w H h) (mu : Mut (H x)) (he : e = x ∨ H e = some (.own x)) (k : ∀ b u, b ≠ e → h.get? b = some u → h'.get? b = some u) (heo : ∃ u, h'.get? e = some u)
    (new : ObjOk P w (upd H x o') h' x o') : HOk P w (upd H x o') h' := fun b u q => by
  have nown : ∀ c y, H c = some (.own y) → c ≠ x := fun c y r z => by subst z; rw [r] at mu; exact mu
  have ntup : ∀ c xs, H c = some (.tup xs) → c ≠ x := fun c xs r z => by subst z; rw [r] at mu; exact mu
  by_cases hb : b = x
  · subst hb; rw [upd_same] at q; cases q; exact new
  · rw [upd_ne hb] at q
    by_cases hbe : b = e
    · have q' : H b = some (.own x) := by
        rcases he with z | z
        · exact absurd (hbe.trans z) hb
        · rw [hbe]; exact z
      rw [q] at q'; cases q'
      obtain ⟨v, hv⟩ := heo
      exact ⟨v, by rw [hbe]; exact hv⟩
    · refine (ok b u q).stay (fun c v hc r => k c v ?_ r) (fun c r => by rw [upd_ne (nown c b r)]; exact r) fun c xs r => by rw [upd_ne (ntup c xs r)]; exact r
      rcases hc with rfl | hc
      · exact hbe
      · rintro rfl
        rcases he with z | z
        · exact nown c b hc z
        · rw [hc] at z; cases z; exact hb rfl
end

structure Un (fs ex : List Addr) (H H' : Hp) (h h' : Heap) : Prop where
  keep : ∀ b o, h.get? b = some o → H b = none → b ∉ fs → b ∉ ex → h'.get? b = some o
  slot : ∀ b o, h.get? b = some o → H b = none → b ∈ fs → b ∉ ex → ∃ sl, h'.get? b = some { o with slots := sl }
  free : ∀ b o, h.get? b = some o → H b = none → b ∉ ex → H' b = none
  there : ∀ b o, h.get? b = some o → b ∉ ex → ∃ o', h'.get? b = some o'
  tups : ∀ b xs, H b = some (.tup xs) → H' b = some (.tup xs)
  frzs : ∀ b o u, H b = some (.frz o u) → H' b = some (.frz o u)
  tbls : ∀ b ps, H b = some (.tbl ps) → ∃ more, H' b = some (.tbl (ps ++ more))
section
variable {fs fs' ex ex' : List Addr} {H H1 H2 : Hp} {h h1 h2 h' : Heap} {a x e : Addr} {o : HO}
theorem Un.any (u : Un fs ex H H1 h h1) {b : Addr} {ob : Obj} (q : h.get? b = some ob) (n : H b = none) (hx : b ∉ ex) : ∃ sl, h1.get? b = some { ob with slots := sl } := by
  by_cases hb : b ∈ fs
  · exact u.slot b ob q n hb hx
  · exact ⟨ob.slots, u.keep b ob q n hb hx⟩
theorem Un.kept (k : ∀ b u, h.get? b = some u → h'.get? b = some u) : Un fs ex H H h h' :=
  ⟨fun b ob q _ _ _ => k b ob q, fun b ob q _ _ _ => ⟨ob.slots, k b ob q⟩, fun _ _ _ n _ => n, fun b ob q _ => ⟨ob, k b ob q⟩, fun _ _ q => q, fun _ _ _ q => q, fun _ ps q => ⟨#[], by rw [q]; simp⟩⟩
theorem Un.refl : Un fs ex H H h h := Un.kept fun _ _ q => q
theorem Un.laid (k : ∀ b u, h.get? b = some u → h'.get? b = some u) (hp : h.objs.size ≤ a) (hn : H a = none) : Un fs ex H (upd H a o) h h' where
  keep := fun b u q _ _ _ => k b u q
  slot := fun b u q _ _ _ => ⟨u.slots, k b u q⟩
  free := fun b u q n _ => by rw [upd_ne (Nat.ne_of_lt (Nat.lt_of_lt_of_le (Heap.lt_size q) hp))]; exact n
  there := fun b u q _ => ⟨u, k b u q⟩
  tups := fun b xs q => by rw [upd_ne (ne_of_none q hn)]; exact q
  frzs := fun b u xs q => by rw [upd_ne (ne_of_none q hn)]; exact q
  tbls := fun b ps q => ⟨#[], by rw [upd_ne (ne_of_none q hn), q]; simp⟩
theorem Un.write (mu : Mut (H x)) (he : e = x ∨ H e = some (.own x)) (k : ∀ b u, b ≠ e → h.get? b = some u → h'.get? b = some u) (heo : ∃ u, h'.get? e = some u) : Un fs ex H (upd H x o) h h' := by
  have hx : ∀ b, H b = none → b ≠ x := fun b n z => by subst z; rw [n] at mu; exact mu
  have hb : ∀ b, H b = none → b ≠ e := fun b n z => by
    subst z
    rcases he with r | r
    · exact hx b n r
    · rw [n] at r; cases r
  have hm : ∀ b u, H b = some u → ¬ Mut (some u) → b ≠ x := fun b u q nm z => by subst z; rw [q] at mu; exact nm mu
  refine ⟨fun b u q n _ _ => k b u (hb b n) q, fun b u q n _ _ => ⟨u.slots, k b u (hb b n) q⟩, fun b u q n _ => by rw [upd_ne (hx b n)]; exact n, fun b u q _ => ?_,
    fun b xs q => by rw [upd_ne (hm b _ q fun z => z)]; exact q, fun b u xs q => by rw [upd_ne (hm b _ q fun z => z)]; exact q, fun b ps q => ⟨#[], by rw [upd_ne (hm b _ q fun z => z), q]; simp⟩⟩
  by_cases hbe : b = e
  · subst hbe; exact heo
  · exact ⟨u, k b u hbe q⟩
end

noncomputable def trk (h : Heap) (H : Hp) : List Addr := (List.range h.objs.size).filter fun a => (H a).isSome
noncomputable def hidT (h : Heap) (H : Hp) : Heap := PySem.W.hideAll h (trk h H)
theorem hidT_size (h : Heap) (H : Hp) : (hidT h H).objs.size = h.objs.size := PySem.W.hideAll_size _ _
theorem hidT_get {h : Heap} {H : Hp} {b : Addr} {o : Obj} (e : h.get? b = some o) (n : H b = none) : (hidT h H).get? b = some o :=
  PySem.W.hideAll_get _ e fun hm => by
    have q : (H b).isSome = true := (List.mem_filter.mp hm).2
    rw [n] at q; simp at q
theorem of_hidT {h : Heap} {H : Hp} {b : Addr} {o : Obj} (e : (hidT h H).get? b = some o) : h.get? b = some o ∧ H b = none := by
  have e' : h.get? b = some o := PySem.W.of_hideAll (trk h H) e
  refine ⟨e', ?_⟩
  cases q : H b with
  | none => rfl
  | some x =>
    have hm : b ∈ trk h H := List.mem_filter.mpr ⟨List.mem_range.mpr (Heap.lt_size e'), by simp [q]⟩
    have z : (hidT h H).get? b = none := PySem.W.hideAll_none (trk h H) hm
    rw [z] at e; cases e

noncomputable def allNews (g h : Heap) (L : Addr) : List (Addr × Obj) := (List.range h.objs.size).filterMap fun a => if a = L ∨ (g.get? a).isSome = true then none else (h.get? a).map fun o => (a, o)
noncomputable def rest (g h : Heap) (L d : Addr) : List (Addr × Obj) := (allNews g h L).filter fun p => decide (p.1 ≠ d)
end L2

namespace L2
open PySem PySem.Spec PyProof.Rows

structure Mod (K : PySem.W.Frag) (mg : Str → Option Value) (base : Heap) : Prop where
  kin : K.In base
  glob : base.Ns mainGlobals mg
  blt : ∃ mb, base.Ns builtinsNs mb ∧ ∀ x : Str, x ≠ "__name__" → mb x = bootBuiltins x
  nolimit : base.NoLimit

/-- the context: a def's body (or a comprehension's block) running. base: fixed through the whole law; s₀, H₀: the entry; outer: the frames whose slots others may change (a def's callers); stack: all frames that run;
   ex: iterators that were made ahead of the entry and are walked here (a comprehension's); fn: the names whose cells were made at the entry (a def: all; a comprehension's block: its own); calm: not within an except suite; pn: pins that every state bears; xe: what is wanted of an exception that leaves the code -/
structure Cx where
  prog : Program
  w : World
  K : PySem.W.Frag
  mg : Str → Option Value
  base : Heap
  A : Around
  N : List Str
  s₀ : Shared
  H₀ : Hp
  env : Env
  outer : List Env
  stack : List Env
  ex : List Addr
  fn : Str → Bool
  calm : Bool
  pn : List (Addr × Obj)
  xe : Value → Shared → Prop
noncomputable def frs (l : List Env) : List Addr := l.filterMap (·.frame)
abbrev Cx.fs (X : Cx) : List Addr := frs X.outer

noncomputable def Vis (sc : Scope) (x : Str) : Prop := sc.names.lookup x = some .local ∨ sc.names.lookup x = some .cell ∨ sc.names.lookup x = some .free
noncomputable def Loc (sc : Scope) (x : Str) : Prop := sc.names.lookup x = some .local ∨ sc.names.lookup x = some .cell
noncomputable def Look (env : Env) (h : Heap) (m : Str → Option Value) (x : Str) (u : Value) : Prop :=
  (env.kindOf x = some .local ∧ m x = some u) ∨ ((env.kindOf x = some .cell ∨ env.kindOf x = some .free) ∧ ∃ c, env.cells.lookup x = some c ∧ h.IsCell c (some u))

structure Cx.Ok (X : Cx) : Prop where
  mod : Mod X.K X.mg X.base
  kind : X.env.scope.kind = .function
  glob : X.env.globals = mainGlobals
  blt : X.env.builtins = builtinsNs
  above : X.s₀.heap.objs.size ≤ X.env.locals
  inj : ∀ x y c, X.env.cells.lookup x = some c → X.env.cells.lookup y = some c → x = y
  has : ∀ x, (X.env.kindOf x = some .cell ∨ X.env.kindOf x = some .free) → ∃ c, X.env.cells.lookup x = some c
  cab : ∀ x c, X.fn x = true → X.env.cells.lookup x = some c → X.s₀.heap.objs.size ≤ c
  hd : X.calm = true → X.A.handled = none
  frames : X.A.frames = some X.stack
  stk : X.stack = X.outer ∨ (X.stack = X.env :: X.outer ∧ X.env.frame = some X.env.locals)
  exf : ∀ b ∈ X.ex, b ≠ X.env.locals ∧ ∀ x c, X.env.cells.lookup x = some c → c ≠ b
  bs : ∀ b o, X.base.get? b = some o → X.s₀.heap.get? b = some o ∧ X.H₀ b = none
  bsz : X.base.objs.size ≤ X.s₀.heap.objs.size
  noex : ∀ b o, X.base.get? b = some o → b ∉ X.ex
  exfs : ∀ b ∈ X.ex, b ∉ X.fs
  funs : X.s₀.heap.FunFrames X.base X.outer
  frf : ∀ b ∈ X.fs, X.H₀ b = none

structure Inv (X : Cx) (pins : List (Addr × Obj)) (σ : List (Option V)) (H : Hp) (s : Shared) : Prop where
  ok : X.Ok
  os : s.os = X.s₀.os
  bare : AllBare s.gens
  base : Un X.fs X.ex X.H₀ H X.s₀.heap s.heap
  loc : ∃ m, s.heap.Ns X.env.locals m ∧ ∀ (i : Nat) (x : Str) (v : V), X.N[i]? = some x → σ[i]? = some (some v) → Vis X.env.scope x → ∃ u, RelV v u ∧ Look X.env s.heap m x u
  cell : ∀ x c, X.env.cells.lookup x = some c → ∃ v, s.heap.IsCell c v
  free : H X.env.locals = none
  freeC : ∀ x c, X.env.cells.lookup x = some c → H c = none
  pin : ∀ p ∈ X.pn ++ pins, s.heap.get? p.1 = some p.2 ∧ H p.1 = none ∧ p.1 ≠ X.env.locals ∧ p.1 ∉ X.fs ∧ ∀ v, p.2.data ≠ .cell v
  hok : HOk X.prog X.w H s.heap
  len : σ.length = X.N.length

section
variable {X : Cx} {pins : List (Addr × Obj)} {σ : List (Option V)} {H H' : Hp} {s : Shared} {h' : Heap}

theorem Cx.Ok.nofr (ok : X.Ok) {b : Addr} {o : Obj} (e : X.base.get? b = some o) : b ∉ X.fs := fun hb => by
  have := (ok.funs.mem hb).1
  rw [e] at this; cases this
theorem Inv.bs (I : Inv X pins σ H s) : ∀ b o, X.base.get? b = some o → s.heap.get? b = some o ∧ H b = none := fun b o e =>
  ⟨I.base.keep b o (I.ok.bs b o e).1 (I.ok.bs b o e).2 (I.ok.nofr e) (I.ok.noex b o e), I.base.free b o (I.ok.bs b o e).1 (I.ok.bs b o e).2 (I.ok.noex b o e)⟩
theorem Inv.bk (I : Inv X pins σ H s) : ∀ b o, X.base.get? b = some o → s.heap.get? b = some o := fun b o e => (I.bs b o e).1
theorem Inv.mod (I : Inv X pins σ H s) : Mod X.K X.mg X.base := I.ok.mod
theorem Inv.kIn (I : Inv X pins σ H s) : X.K.In s.heap := I.ok.mod.kin.keeps I.bk
theorem Inv.lt (I : Inv X pins σ H s) : X.env.locals < s.heap.objs.size := let ⟨_, hn, _⟩ := I.loc; hn.lt
theorem Inv.sz (I : Inv X pins σ H s) : X.s₀.heap.objs.size ≤ s.heap.objs.size := Nat.le_trans I.ok.above (Nat.le_of_lt I.lt)
theorem Inv.nofs (I : Inv X pins σ H s) {a : Addr} (h : s.heap.objs.size ≤ a) : a ∉ X.fs := fun hb => by
  obtain ⟨_, o, ho, _⟩ := I.ok.funs.mem hb
  exact absurd (Nat.lt_of_lt_of_le (Heap.lt_size ho) (Nat.le_trans I.sz h)) (Nat.lt_irrefl _)
theorem Inv.cne (I : Inv X pins σ H s) : ∀ x c, X.env.cells.lookup x = some c → c ≠ X.env.locals := fun x c e z => by
  obtain ⟨v, o, ho, hd⟩ := I.cell x c e
  obtain ⟨m, ⟨o', es, ep, ho', hd', _⟩, _⟩ := I.loc
  rw [z, ho'] at ho; cases ho; rw [hd'] at hd; cases hd
theorem Inv.funs (I : Inv X pins σ H s) : s.heap.FunFrames X.base X.outer := by
  have all : ∀ (l : List Env), (∀ b ∈ frs l, b ∈ X.fs) → X.s₀.heap.FunFrames X.base l → s.heap.FunFrames X.base l := by
    intro l
    induction l with
    | nil => intro _ _; trivial
    | cons env r ih =>
      intro hs hl
      obtain ⟨hk, ⟨L, o, hf, hn, ho, hd⟩, hr⟩ := hl
      have hL : L ∈ X.fs := hs L (by unfold frs; rw [List.filterMap_cons, hf]; exact List.mem_cons_self)
      obtain ⟨sl, e⟩ := I.base.slot L o ho (I.ok.frf L hL) hL fun z => I.ok.exfs L z hL
      exact ⟨hk, ⟨L, _, hf, hn, e, hd⟩, ih (fun b hb => hs b (by unfold frs; rw [List.filterMap_cons, hf]; exact List.mem_cons_of_mem _ hb)) hr⟩
  exact all X.outer (fun _ hb => hb) I.ok.funs

theorem Inv.stack (I : Inv X pins σ H s) : s.heap.FunFrames X.base X.stack := by
  rcases I.ok.stk with e | ⟨e, hf⟩
  · rw [e]; exact I.funs
  · rw [e]
    obtain ⟨m, hn, _⟩ := I.loc
    refine .cons (by rw [I.ok.kind]; decide) hf hn ?_ I.funs
    exact Heap.get?_none_of_le (Nat.le_trans I.ok.bsz I.ok.above)
theorem Inv.stkSub (I : Inv X pins σ H s) : ∀ b ∈ frs X.stack, b ∈ X.env.locals :: X.fs := fun b hb => by
  rcases I.ok.stk with e | ⟨e, hf⟩
  · rw [e] at hb; exact List.mem_cons_of_mem _ hb
  · rw [e] at hb
    unfold frs at hb
    rw [List.filterMap_cons, hf] at hb
    exact hb
theorem Inv.stkFree (I : Inv X pins σ H s) : ∀ b ∈ frs X.stack, H b = none := fun b hb => by
  rcases List.mem_cons.mp (I.stkSub b hb) with e | hb
  · rw [e]; exact I.free
  · obtain ⟨_, o, ho, _⟩ := I.ok.funs.mem hb
    exact I.base.free b o ho (I.ok.frf b hb) fun z => I.ok.exfs b z hb

theorem Inv.step {g' : Array GenState} {t' : Nat} {d' : Drawn} {ch : List Addr} (I : Inv X pins σ H s)
    (hch : ∀ b ∈ ch, (b ∈ X.ex ∨ X.s₀.heap.objs.size ≤ b) ∧ b ≠ X.env.locals ∧ (∀ x c, X.env.cells.lookup x = some c → c ≠ b) ∧ ∀ p ∈ X.pn ++ pins, p.1 ≠ b)
    (keep : ∀ b o, b ≠ X.env.locals → b ∉ X.fs → b ∉ ch → s.heap.get? b = some o → H b = none → h'.get? b = some o)
    (slot : ∀ b o, b ≠ X.env.locals → b ∈ X.fs → b ∉ ch → s.heap.get? b = some o → H b = none → ∃ sl, h'.get? b = some { o with slots := sl }) (free : ∀ b o, b ∉ ch → s.heap.get? b = some o → H b = none → H' b = none)
    (there : ∀ b o, b ∉ ch → s.heap.get? b = some o → ∃ o', h'.get? b = some o')
    (tups : ∀ b xs, H b = some (.tup xs) → H' b = some (.tup xs)) (frzs : ∀ b o u, H b = some (.frz o u) → H' b = some (.frz o u)) (tbls : ∀ b ps, H b = some (.tbl ps) → ∃ more, H' b = some (.tbl (ps ++ more)))
    (ns : ∀ m, s.heap.Ns X.env.locals m → h'.Ns X.env.locals m) (hok : HOk X.prog X.w H' h') (hg : AllBare g') :
    Inv X pins σ H' { s with heap := h', gens := g', drawn := d', toks := t' } := by
  have neL : ∀ b o, X.s₀.heap.get? b = some o → b ≠ X.env.locals := fun b o e => Nat.ne_of_lt (Nat.lt_of_lt_of_le (Heap.lt_size e) I.ok.above)
  have neC : ∀ b o, X.s₀.heap.get? b = some o → b ∉ X.ex → b ∉ ch := fun b o e hx hb => by
    rcases (hch b hb).1 with z | z
    · exact hx z
    · exact absurd (Nat.lt_of_lt_of_le (Heap.lt_size e) z) (Nat.lt_irrefl _)
  have cellK : ∀ x c, X.env.cells.lookup x = some c → ∀ v, s.heap.IsCell c v → h'.IsCell c v := fun x c e v ⟨o, ho, hd⟩ => by
    have nch : c ∉ ch := fun z => (hch c z).2.2.1 x c e rfl
    by_cases hc : c ∈ X.fs
    · obtain ⟨sl, q⟩ := slot c o (I.cne x c e) hc nch ho (I.freeC x c e)
      exact ⟨_, q, hd⟩
    · exact ⟨o, keep c o (I.cne x c e) hc nch ho (I.freeC x c e), hd⟩
  refine ⟨I.ok, I.os, hg, ⟨fun b o e n hb hx => ?_, fun b o e n hb hx => ?_, fun b o e n hx => ?_, fun b o e hx => ?_, fun b xs e => tups b xs (I.base.tups b xs e), fun b o xs e => frzs b o xs (I.base.frzs b o xs e), fun b ps e => ?_⟩, ?_, fun x c e => ?_, ?_, fun x c e => ?_, fun p hp => ?_, hok, I.len⟩
  · exact keep b o (neL b o e) hb (neC b o e hx) (I.base.keep b o e n hb hx) (I.base.free b o e n hx)
  · obtain ⟨sl, e1⟩ := I.base.slot b o e n hb hx
    obtain ⟨sl', e2⟩ := slot b _ (neL b o e) hb (neC b o e hx) e1 (I.base.free b o e n hx)
    exact ⟨sl', e2⟩
  · obtain ⟨o', e1⟩ := I.base.there b o e hx
    exact free b o' (neC b o e hx) e1 (I.base.free b o e n hx)
  · obtain ⟨o', e1⟩ := I.base.there b o e hx
    exact there b o' (neC b o e hx) e1
  · obtain ⟨m1, e1⟩ := I.base.tbls b ps e
    obtain ⟨m2, e2⟩ := tbls b _ e1
    exact ⟨m1 ++ m2, by rw [e2, Array.append_assoc]⟩
  · obtain ⟨m, hn, hl⟩ := I.loc
    refine ⟨m, ns m hn, fun i x v e1 e2 e3 => ?_⟩
    obtain ⟨u, r, l⟩ := hl i x v e1 e2 e3
    refine ⟨u, r, ?_⟩
    rcases l with l | ⟨k, c, e, z⟩
    · exact .inl l
    · exact .inr ⟨k, c, e, cellK x c e _ z⟩
  · obtain ⟨v, z⟩ := I.cell x c e
    exact ⟨v, cellK x c e v z⟩
  · obtain ⟨m, ⟨o, _, _, ho, _⟩, _⟩ := I.loc
    exact free _ o (fun z => (hch _ z).2.1 rfl) ho I.free
  · obtain ⟨v, o, ho, hd⟩ := I.cell x c e
    exact free c o (fun z => (hch c z).2.2.1 x c e rfl) ho (I.freeC x c e)
  · obtain ⟨e, n, ne, nf, d⟩ := I.pin p hp
    have nch : p.1 ∉ ch := fun z => (hch p.1 z).2.2.2 p hp rfl
    exact ⟨keep p.1 p.2 ne nf nch e n, free p.1 p.2 nch e n, ne, nf, d⟩
theorem Inv.un {t' : Nat} (I : Inv X pins σ H s) (u : Un X.fs [] H H' s.heap h') (hok : HOk X.prog X.w H' h') : Inv X pins σ H' { s with heap := h', toks := t' } := by
  obtain ⟨m, ⟨o, es, ep, ho, r⟩, _⟩ := id I.loc
  obtain ⟨sl, hL⟩ := u.any ho I.free (by simp)
  exact I.step (g' := s.gens) (d' := s.drawn) (ch := []) (fun _ z => nomatch z) (fun b o _ hb _ e n => u.keep b o e n hb (by simp)) (fun b o _ hb _ e n => u.slot b o e n hb (by simp)) (fun b o _ e n => u.free b o e n (by simp)) (fun b o _ e => u.there b o e (by simp)) u.tups u.frzs u.tbls (fun m' hm => by
    obtain ⟨o', es', ep', ho', r'⟩ := hm
    rw [ho] at ho'; cases ho'
    exact ⟨_, es', ep', hL, r'⟩) hok I.bare
theorem Inv.call {g' : Array GenState} {t' : Nat} {d' : Drawn} {ch : List Addr} (I : Inv X pins σ H s) (u : Un (frs X.stack) ch H H' s.heap h') (hok : HOk X.prog X.w H' h') (hg : AllBare g')
    (hch : ∀ b ∈ ch, (b ∈ X.ex ∨ X.s₀.heap.objs.size ≤ b) ∧ b ≠ X.env.locals ∧ (∀ x c, X.env.cells.lookup x = some c → c ≠ b) ∧ ∀ p ∈ X.pn ++ pins, p.1 ≠ b) :
    Inv X pins σ H' { s with heap := h', gens := g', drawn := d', toks := t' } := by
  obtain ⟨m, ⟨o, es, ep, ho, r⟩, _⟩ := id I.loc
  obtain ⟨sl, hL⟩ := u.any ho I.free fun z => (hch _ z).2.1 rfl
  exact I.step (ch := ch) hch (fun b o hL hb hc e n => u.keep b o e n (fun z => (List.mem_cons.mp (I.stkSub b z)).elim hL hb) hc) (fun b o _ _ hc e n => u.any e n hc) (fun b o hc e n => u.free b o e n hc) (fun b o hc e => u.there b o e hc) u.tups u.frzs u.tbls (fun m' hm => by
    obtain ⟨o', es', ep', ho', r'⟩ := hm
    rw [ho] at ho'; cases ho'
    exact ⟨_, es', ep', hL, r'⟩) hok hg
theorem Inv.turned {t' : Nat} {it : Addr} (I : Inv X pins σ H s) (k : ∀ b o, b ≠ it → s.heap.get? b = some o → h'.get? b = some o) (hn : H it = none) (hL : it ≠ X.env.locals)
    (h1 : it ∈ X.ex ∨ X.s₀.heap.objs.size ≤ it) (h2 : ∀ x c, X.env.cells.lookup x = some c → c ≠ it) (h3 : ∀ p ∈ X.pn ++ pins, p.1 ≠ it) : Inv X pins σ H { s with heap := h', toks := t' } := by
  have nit : ∀ b u, H b = some u → b ≠ it := fun b u e z => by rw [z, hn] at e; cases e
  refine I.step (g' := s.gens) (d' := s.drawn) (ch := [it]) (fun b hb => ?_) (fun b o _ _ hc e _ => k b o (fun z => hc (by simp [z])) e) (fun b o _ _ hc e _ => ⟨o.slots, k b o (fun z => hc (by simp [z])) e⟩) (fun _ _ _ _ n => n)
    (fun b o hc e => ⟨o, k b o (fun z => hc (by simp [z])) e⟩) (fun _ _ e => e) (fun _ _ _ e => e) (fun b ps e => ⟨#[], by rw [e]; simp⟩) (fun m hm => ?_) (fun b u e => ?_) I.bare
  · have e : b = it := by simpa using hb
    subst e
    exact ⟨h1, hL, h2, h3⟩
  · obtain ⟨o, es, ep, ho, r⟩ := hm
    exact ⟨o, es, ep, k _ o (Ne.symm hL) ho, r⟩
  · refine (I.hok b u e).stay (fun c v hc q => k c v ?_ q) (fun _ q => q) fun _ _ q => q
    rcases hc with z | z
    · rw [z]; exact nit b u e
    · exact nit c _ z
theorem Inv.tok (I : Inv X pins σ H s) (t : Nat) : Inv X pins σ H { s with toks := t } := I.un (h' := s.heap) (t' := t) Un.refl I.hok
theorem Inv.kept {t' : Nat} (I : Inv X pins σ H s) (k : ∀ b u, s.heap.get? b = some u → h'.get? b = some u) : Inv X pins σ H { s with heap := h', toks := t' } := I.un (Un.kept k) (I.hok.kept k)
theorem Inv.laid {a : Addr} {o : HO} {t' : Nat} (I : Inv X pins σ H s) (k : ∀ b u, s.heap.get? b = some u → h'.get? b = some u) (hp : s.heap.objs.size ≤ a) (new : ObjOk X.prog X.w (upd H a o) h' a o) :
    Inv X pins σ (upd H a o) { s with heap := h', toks := t' } := I.un (Un.laid k hp (I.hok.fresh hp)) (I.hok.laid k hp new)
theorem Inv.write {x e : Addr} {o : HO} {t' : Nat} (I : Inv X pins σ H s) (mu : Mut (H x)) (he : e = x ∨ H e = some (.own x)) (k : ∀ b u, b ≠ e → s.heap.get? b = some u → h'.get? b = some u) (heo : ∃ u, h'.get? e = some u)
    (new : ObjOk X.prog X.w (upd H x o) h' x o) : Inv X pins σ (upd H x o) { s with heap := h', toks := t' } := I.un (Un.write mu he k heo) (I.hok.write mu he k heo new)
theorem Inv.weak {σ' : List (Option V)} (I : Inv X pins σ H s) (hl : σ'.length = σ.length) (w : ∀ (i : Nat) v, σ'[i]? = some (some v) → σ[i]? = some (some v)) : Inv X pins σ' H s :=
  ⟨I.ok, I.os, I.bare, I.base, let ⟨m, hn, hl'⟩ := I.loc; ⟨m, hn, fun i x v e1 e2 e3 => hl' i x v e1 (w i v e2) e3⟩, I.cell, I.free, I.freeC, I.pin, I.hok, hl.trans I.len⟩
theorem Inv.pins_of {pins' : List (Addr × Obj)} (I : Inv X pins σ H s) (h : ∀ p ∈ pins', s.heap.get? p.1 = some p.2 ∧ H p.1 = none ∧ p.1 ≠ X.env.locals ∧ p.1 ∉ X.fs ∧ ∀ v, p.2.data ≠ .cell v) : Inv X pins' σ H s :=
  ⟨I.ok, I.os, I.bare, I.base, I.loc, I.cell, I.free, I.freeC, fun p hp => (List.mem_append.mp hp).elim (fun z => I.pin p (List.mem_append_left _ z)) (h p), I.hok, I.len⟩

theorem nodup_ix {N : List Str} (hN : N.Nodup) {i j : Nat} {x : Str} (a : N[i]? = some x) (b : N[j]? = some x) : i = j := by
  obtain ⟨h1, e1⟩ := List.getElem?_eq_some_iff.mp a
  obtain ⟨h2, e2⟩ := List.getElem?_eq_some_iff.mp b
  exact (List.getElem_inj hN).mp (e1.trans e2.symm)

theorem store_ok2 {M : Model} {A : Around} {E : Value → Shared → Prop} {i : Nat} {x : Str} {v : V} {u : Value} {Q : Unit → Shared → Prop} (I : Inv X pins σ H s) (hN : X.N.Nodup) (hi : X.N[i]? = some x) (hx : Loc X.env.scope x) (r : RelV v u)
    (h : ∀ s', Inv X pins (σ.set i (some v)) H s' → (∃ a, Heap.SameBut a s.heap s'.heap ∧ (a = X.env.locals ∨ X.env.cells.lookup x = some a)) → Q () s') (hf : X.fn x = true ∨ X.env.scope.names.lookup x = some .local := by first | exact .inl rfl | exact .inr rfl | assumption) : wpAny M A (storeName X.env x u) Q E s := by
  obtain ⟨m, hn, hl⟩ := id I.loc
  have hcls : (X.env.scope.kind == .class || (X.env.scope.kind == .module && X.env.locals != X.env.globals)) = false := by rw [I.ok.kind]; rfl
  have hiσ : i < σ.length := by rw [I.len]; exact (List.getElem?_eq_some_iff.mp hi).1
  have cne := I.cne
  have tracked : ∀ {a : Addr} {h' : Heap}, (∃ o, s.heap.get? a = some o ∧ H a = none) → Heap.SameBut a s.heap h' → HOk X.prog X.w H h' := fun {a h'} ha hs b ob e => by
    obtain ⟨_, _, hfree⟩ := ha
    refine (I.hok b ob e).stay (fun c w' hc q => (hs.2 c ?_).trans q) (fun _ q => q) fun _ _ q => q
    rintro rfl
    rcases hc with rfl | hc
    · rw [hfree] at e; cases e
    · rw [hfree] at hc; cases hc
  rcases hx with hk | hk
  · refine wpAny_storeName_local hk hn (fun h' hn' hs => ?_) hcls
    obtain ⟨oL, _, _, hoL, _⟩ := id hn
    refine h _ ⟨I.ok, I.os, I.bare, ⟨fun b o e n hb hx => ?_, fun b o e n hb hx => ?_, I.base.free, fun b o e hx => ?_, I.base.tups, I.base.frzs, I.base.tbls⟩, ⟨_, hn', fun j y v' e1 e2 e3 => ?_⟩, fun y c e => ?_, I.free, I.freeC, fun p hp => ?_, tracked ⟨oL, hoL, I.free⟩ hs, by simpa using I.len⟩ ⟨_, hs, .inl rfl⟩
    · exact (hs.2 b (Nat.ne_of_lt (Nat.lt_of_lt_of_le (Heap.lt_size e) I.ok.above))).trans (I.base.keep b o e n hb hx)
    · obtain ⟨sl, e1⟩ := I.base.slot b o e n hb hx
      exact ⟨sl, (hs.2 b (Nat.ne_of_lt (Nat.lt_of_lt_of_le (Heap.lt_size e) I.ok.above))).trans e1⟩
    · obtain ⟨o', e1⟩ := I.base.there b o e hx
      exact ⟨o', (hs.2 b (Nat.ne_of_lt (Nat.lt_of_lt_of_le (Heap.lt_size e) I.ok.above))).trans e1⟩
    · by_cases hj : j = i
      · subst hj
        rw [hi] at e1; cases e1
        rw [List.getElem?_set_self hiσ] at e2
        cases e2
        exact ⟨u, r, .inl ⟨hk, by simp⟩⟩
      · rw [List.getElem?_set_ne (Ne.symm hj)] at e2
        obtain ⟨u', r', q⟩ := hl j y v' e1 e2 e3
        refine ⟨u', r', ?_⟩
        rcases q with ⟨k, e⟩ | ⟨k, c, e, z⟩
        · refine .inl ⟨k, ?_⟩
          have : y ≠ x := fun e => hj (nodup_ix hN e1 (e ▸ hi))
          simp [this, e]
        · exact .inr ⟨k, c, e, z.sameBut hs (cne y c e)⟩
    · obtain ⟨w', z⟩ := I.cell y c e
      exact ⟨w', z.sameBut hs (cne y c e)⟩
    · obtain ⟨e, n, ne, nf, d⟩ := I.pin p hp
      exact ⟨(hs.2 p.1 ne).trans e, n, ne, nf, d⟩
  · have hfn : X.fn x = true := by
      rcases hf with z | z
      · exact z
      · rw [z] at hk; cases hk
    obtain ⟨c, hc⟩ := I.ok.has x (.inl hk)
    obtain ⟨w', z⟩ := I.cell x c hc
    refine wpAny_storeName_cell I.ok.kind hk hc z (fun h' hc' hs => ?_)
    obtain ⟨oc, hoc, hocd⟩ := id z
    refine h { s with heap := h' } ⟨I.ok, I.os, I.bare, ⟨fun b o e n hb hx => ?_, fun b o e n hb hx => ?_, I.base.free, fun b o e hx => ?_, I.base.tups, I.base.frzs, I.base.tbls⟩, ⟨m, hn.sameBut hs (Ne.symm (cne x c hc)), fun j y v' e1 e2 e3 => ?_⟩, fun y c' e => ?_, I.free, I.freeC, fun p hp => ?_, tracked ⟨oc, hoc, I.freeC x c hc⟩ hs, by simpa using I.len⟩ ⟨c, hs, .inr hc⟩
    · exact (hs.2 b (Nat.ne_of_lt (Nat.lt_of_lt_of_le (Heap.lt_size e) (I.ok.cab x c hfn hc)))).trans (I.base.keep b o e n hb hx)
    · obtain ⟨sl, e1⟩ := I.base.slot b o e n hb hx
      exact ⟨sl, (hs.2 b (Nat.ne_of_lt (Nat.lt_of_lt_of_le (Heap.lt_size e) (I.ok.cab x c hfn hc)))).trans e1⟩
    · obtain ⟨o', e1⟩ := I.base.there b o e hx
      exact ⟨o', (hs.2 b (Nat.ne_of_lt (Nat.lt_of_lt_of_le (Heap.lt_size e) (I.ok.cab x c hfn hc)))).trans e1⟩
    · by_cases hj : j = i
      · subst hj
        rw [hi] at e1; cases e1
        rw [List.getElem?_set_self hiσ] at e2
        cases e2
        exact ⟨u, r, .inr ⟨.inl hk, c, hc, hc'⟩⟩
      · rw [List.getElem?_set_ne (Ne.symm hj)] at e2
        obtain ⟨u', r', q⟩ := hl j y v' e1 e2 e3
        refine ⟨u', r', ?_⟩
        rcases q with q | ⟨k, c', e, z'⟩
        · exact .inl q
        · refine .inr ⟨k, c', e, z'.sameBut hs ?_⟩
          rintro rfl
          exact hj (nodup_ix hN e1 (I.ok.inj _ _ _ e hc ▸ hi))
    · by_cases hcc : c' = c
      · subst hcc; exact ⟨_, hc'⟩
      · obtain ⟨w2, z2⟩ := I.cell y c' e
        exact ⟨w2, z2.sameBut hs hcc⟩
    · obtain ⟨e, n, ne, nf, d⟩ := I.pin p hp
      refine ⟨(hs.2 p.1 ?_).trans e, n, ne, nf, d⟩
      intro q
      rw [q, hoc] at e
      have q' : oc = p.2 := Option.some.inj e
      exact d w' (by rw [← q']; exact hocd)
theorem store_ok {M : Model} {A : Around} {E : Value → Shared → Prop} {i : Nat} {x : Str} {v : V} {u : Value} {Q : Unit → Shared → Prop} (I : Inv X pins σ H s) (hN : X.N.Nodup) (hi : X.N[i]? = some x) (hx : Loc X.env.scope x) (r : RelV v u)
    (h : ∀ s', Inv X pins (σ.set i (some v)) H s' → Q () s') (hf : X.fn x = true ∨ X.env.scope.names.lookup x = some .local := by first | exact .inl rfl | exact .inr rfl | assumption) : wpAny M A (storeName X.env x u) Q E s :=
  store_ok2 I hN hi hx r (fun s' I' _ => h s' I') hf
theorem Inv.call' {s' : Shared} {ch : List Addr} (I : Inv X pins σ H s) (ho : s'.os = s.os) (u : Un (frs X.stack) ch H H' s.heap s'.heap) (hok : HOk X.prog X.w H' s'.heap) (hg : AllBare s'.gens)
    (hch : ∀ b ∈ ch, (b ∈ X.ex ∨ X.s₀.heap.objs.size ≤ b) ∧ b ≠ X.env.locals ∧ (∀ x c, X.env.cells.lookup x = some c → c ≠ b) ∧ ∀ p ∈ X.pn ++ pins, p.1 ≠ b) : Inv X pins σ H' s' := by
  obtain ⟨h', g', d', t', o'⟩ := s'
  have e : o' = s.os := ho
  subst e
  exact I.call (g' := g') (t' := t') (d' := d') u hok hg hch
end

abbrev XK := Value → Option Addr → Hp → Prop
abbrev St := List (Option V)
abbrev VK := V → Hp → Prop
abbrev TE := St → Hp → VK → Prop
abbrev TT := St → Hp → (Bool → Hp → Prop) → Prop
abbrev TA := St → Hp → (List V → Hp → Prop) → Prop
structure Ends where
  nx : St → Hp → Prop
  rt : VK
  bk : St → Hp → Prop := fun _ _ => False
  ct : St → Hp → Prop := fun _ _ => False
abbrev TS := Ends → St → Hp → Prop

noncomputable def EP (X : Cx) (pins : List (Addr × Obj)) (σ : St) (Q : VK) (u : Value) (s' : Shared) : Prop := ∃ v H', Inv X pins σ H' s' ∧ RelV v u ∧ Q v H'
noncomputable def TP (X : Cx) (pins : List (Addr × Obj)) (σ : St) (Q : Bool → Hp → Prop) (b : Bool) (s' : Shared) : Prop := ∃ H', Inv X pins σ H' s' ∧ Q b H'
noncomputable def AP (X : Cx) (pins : List (Addr × Obj)) (σ : St) (Q : List V → Hp → Prop) (us : List Value) (s' : Shared) : Prop := ∃ vs H', Inv X pins σ H' s' ∧ Vals vs us ∧ Q vs H'
noncomputable def SP (X : Cx) (pins : List (Addr × Obj)) (D : Ends) (f : Flow) (s' : Shared) : Prop :=
  match f with
  | .next => ∃ σ' H', Inv X pins σ' H' s' ∧ D.nx σ' H'
  | .brk => ∃ σ' H', Inv X pins σ' H' s' ∧ D.bk σ' H'
  | .cont => ∃ σ' H', Inv X pins σ' H' s' ∧ D.ct σ' H'
  | .ret u => ∃ v σ' H', Inv X pins σ' H' s' ∧ RelV v u ∧ D.rt v H'

noncomputable def PE (X : Cx) (e : Expr) (t : TE) : Prop :=
  ∀ (pins : List (Addr × Obj)) (s : Shared) (σ : St) (H : Hp) (Q : VK), Inv X pins σ H s → t σ H Q → wpAny (model X.prog X.w) X.A (eval e X.env) (EP X pins σ Q) X.xe s
noncomputable def PT (X : Cx) (e : Expr) (t : TT) : Prop :=
  ∀ (pins : List (Addr × Obj)) (s : Shared) (σ : St) (H : Hp) (Q : Bool → Hp → Prop), Inv X pins σ H s → t σ H Q → wpAny (model X.prog X.w) X.A (isTrue e X.env (eval e X.env)) (TP X pins σ Q) X.xe s
noncomputable def PW (X : Cx) (e : Expr) (t : TT) : Prop :=
  ∀ (whole : Sem Value) (pins : List (Addr × Obj)) (s : Shared) (σ : St) (H : Hp) (Q : Bool → Hp → Prop), Inv X pins σ H s → t σ H Q → wpAny (model X.prog X.w) X.A (isTrue e X.env whole) (TP X pins σ Q) X.xe s
theorem PW.pt {X : Cx} {e : Expr} {t : TT} (h : PW X e t) : PT X e t := h _
noncomputable def PA (X : Cx) (es : List Expr) (t : TA) : Prop :=
  ∀ (pos : Pos) (pins : List (Addr × Obj)) (s : Shared) (σ : St) (H : Hp) (Q : List V → Hp → Prop), Inv X pins σ H s → t σ H Q → wpAny (model X.prog X.w) X.A (spliced (backTo pos (starEach es X.env))) (AP X pins σ Q) X.xe s
noncomputable def PS (X : Cx) (st : Stmt) (t : TS) : Prop :=
  ∀ (pins : List (Addr × Obj)) (s : Shared) (σ : St) (H : Hp) (D : Ends), Inv X pins σ H s → t D σ H → wpAny (model X.prog X.w) X.A (exec st X.env) (SP X pins D) X.xe s
noncomputable def PSs (X : Cx) (st : List Stmt) (t : TS) : Prop :=
  ∀ (pins : List (Addr × Obj)) (s : Shared) (σ : St) (H : Hp) (D : Ends), Inv X pins σ H s → t D σ H → wpAny (model X.prog X.w) X.A (execs st X.env) (SP X pins D) X.xe s
theorem thn {α : Type} {t : Sem α} {Q Q' : α → Shared → Prop} {M : Model} {A : Around} {E : Value → Shared → Prop} {s : Shared} (h : wpAny M A t Q E s) (hQ : ∀ a s, Q a s → Q' a s) : wpAny M A t Q' E s := wpAny_mono h hQ fun _ _ x => x
end L2

namespace L2
open PySem PySem.Spec PyProof.Rows
section
variable {X : Cx}

theorem bin {a b : Expr} {ta tb : TE} (ha : PE X a ta) (hb : PE X b tb) {pins : List (Addr × Obj)} {s : Shared} {σ : St} {H : Hp} {R : V → V → Hp → Prop} (I : Inv X pins σ H s) (h : ta σ H fun x H1 => tb σ H1 fun y H2 => R x y H2)
    {α : Type} {Q : α → Shared → Prop} {f : Value → Value → Sem α}
    (hf : ∀ v u s2 x y H2, Inv X pins σ H2 s2 → RelV x v → RelV y u → R x y H2 → wpAny (model X.prog X.w) X.A (f v u) Q X.xe s2) :
    wpAny (model X.prog X.w) X.A (eval a X.env) (fun v s₁ => wpAny (model X.prog X.w) X.A (eval b X.env) (fun u s₂ => wpAny (model X.prog X.w) X.A (f v u) Q X.xe s₂) X.xe s₁) X.xe s := by
  refine thn (ha pins s σ H _ I h) fun v s1 ⟨x, H1, I1, r1, q1⟩ => ?_
  refine thn (hb pins s1 σ H1 _ I1 q1) fun u s2 ⟨y, H2, I2, r2, q2⟩ => ?_
  exact hf v u s2 x y H2 I2 r1 r2 q2

noncomputable def tVar (i : Nat) : TE := fun σ H Q => ∃ v, σ[i]? = some (some v) ∧ Q v H
noncomputable def tC (v : V) : TE := fun _ H Q => Q v H
theorem pe_var {i : Nat} {x : Str} {pos : Pos} (hN : X.N[i]? = some x) (hv : Vis X.env.scope x) (hd : (x == ("__debug__" : Str)) = false := by decide) (hcd : (x == ("__classdict__" : Str)) = false := by decide) : PE X (.Name x pos) (tVar i) := by
  intro pins s σ H Q I h
  obtain ⟨v, e, h⟩ := h
  obtain ⟨m, hn, hl⟩ := I.loc
  obtain ⟨u, r, l⟩ := hl i x v hN e hv
  have fin : EP X pins σ Q u s := ⟨v, H, I, r, h⟩
  rcases l with ⟨hk, hm⟩ | ⟨hk, c, hc, hcell⟩
  · exact wpAny_Name (wpAny_loadName_local I.ok.kind hk hn hm fin) hd
  · rcases hk with hk | hk
    · exact wpAny_Name (wpAny_loadName_cell I.ok.kind hk hc hcell fin) hd
    · exact wpAny_Name (wpAny_loadName_free I.ok.kind hk hc hcell fin hcd) hd
theorem pe_int {i j pos} : PE X (.Constant (.int i) j pos) (tC (.int i)) := fun _ _ _ H _ I h => wpAny_Constant_int ⟨.int i, H, I.tok _, ⟨_, rfl⟩, h⟩
theorem pe_bl {b j pos} : PE X (.Constant (.bool b) j pos) (tC (.bl b)) := fun _ _ _ H _ I h => Constant_bool ⟨.bl b, H, I, rfl, h⟩
theorem pe_non {j pos} : PE X (.Constant .none j pos) (tC .non) := fun _ _ _ H _ I h => Constant_none ⟨.non, H, I, rfl, h⟩
theorem pe_str {x j pos} : PE X (.Constant (.str x) j pos) (tC (.str x)) := fun _ _ _ H _ I h => Calls.Constant_str ⟨.str x, H, I.tok _, ⟨_, rfl⟩, h⟩

noncomputable def Gl (X : Cx) (x : Str) : Prop := X.env.kindOf x = some .globalImplicit
theorem ld_glob {E : Value → Shared → Prop} {pins : List (Addr × Obj)} {s : Shared} {σ : St} {H : Hp} {x : Str} {u : Value} {pos : Pos} {Q : Value → Shared → Prop} (I : Inv X pins σ H s) (hg : Gl X x) (hm : X.mg x = some u) (h : Q u s)
    (hd : (x == ("__debug__" : Str)) = false := by decide) : wpAny (model X.prog X.w) X.A (eval (.Name x pos) X.env) Q E s :=
  Calls.Name_function_global I.ok.kind hg (Calls.loadGlobal_global (by rw [I.ok.glob]; exact I.mod.glob.keeps I.bk) hm h) hd
theorem ld_blt {E : Value → Shared → Prop} {pins : List (Addr × Obj)} {s : Shared} {σ : St} {H : Hp} {x : Str} {u : Value} {pos : Pos} {Q : Value → Shared → Prop} (I : Inv X pins σ H s) (hg : Gl X x) (hm : X.mg x = none) (hv : bootBuiltins x = some u) (h : Q u s)
    (hn : x ≠ "__name__" := by decide) (hd : (x == ("__debug__" : Str)) = false := by decide) : wpAny (model X.prog X.w) X.A (eval (.Name x pos) X.env) Q E s := by
  obtain ⟨mb, h1, h2⟩ := I.mod.blt
  exact Calls.Name_function_global I.ok.kind hg (Calls.loadGlobal_builtin (by rw [I.ok.glob]; exact I.mod.glob.keeps I.bk) hm (by rw [I.ok.blt]; exact h1.keeps I.bk) ((h2 x hn).trans hv) h) hd
theorem pe_glob {x : Str} {v : V} {u : Value} {pos : Pos} (hg : Gl X x) (hm : X.mg x = some u) (r : RelV v u) (hd : (x == ("__debug__" : Str)) = false := by decide) : PE X (.Name x pos) (tC v) :=
  fun _ _ _ H _ I h => ld_glob I hg hm ⟨v, H, I, r, h⟩ hd
theorem pe_bltn {x : Str} {v : V} {u : Value} {pos : Pos} (hg : Gl X x) (hm : X.mg x = none) (hv : bootBuiltins x = some u) (r : RelV v u) (hn : x ≠ "__name__" := by decide) (hd : (x == ("__debug__" : Str)) = false := by decide) : PE X (.Name x pos) (tC v) :=
  fun _ _ _ H _ I h => ld_blt I hg hm hv ⟨v, H, I, r, h⟩ hn hd

variable {a b : Expr} {ta tb : TE} {pos : Pos}

noncomputable def tB (t : TE) : TT := fun σ H Q => t σ H fun x H1 => ∃ c, x = .bl c ∧ Q c H1
theorem pt_val {e : Expr} {t : TE} (h : PE X e t) (he : ∀ whole, isTrue e X.env whole = (do let v ← whole; standAt e.pos; holding [v] (truthy v)) := by intro _; rfl) : PT X e (tB t) := by
  intro pins s σ H Q I hw
  refine isTrue_plain (thn (h pins s σ H _ I hw) fun v s1 ⟨x, H1, I1, r1, q1⟩ => ?_) (he _)
  obtain ⟨d, rfl, q⟩ := q1
  cases r1
  exact wpAny_truthy_bool ⟨H1, I1, q⟩

variable {tA tB' : TT} {rest : List Expr}
noncomputable def tAnd (t u : TT) : TT := fun σ H Q => t σ H fun c H1 => if c = true then u σ H1 Q else Q false H1
noncomputable def tOr (t u : TT) : TT := fun σ H Q => t σ H fun c H1 => if c = true then Q true H1 else u σ H1 Q
noncomputable def tNot (t : TT) : TT := fun σ H Q => t σ H fun c H1 => Q (!c) H1
theorem pw_and1 (ha : PT X a tA) : PW X (.BoolOp .And [a] pos) tA := by
  intro wh pins s σ H Q I h
  refine isTrue_and (thn (ha pins s σ H Q I h) fun c s1 e => ?_)
  cases c with
  | true => exact isTrue_and_nil e
  | false => exact e
theorem pw_or1 (ha : PT X a tA) : PW X (.BoolOp .Or [a] pos) tA := by
  intro wh pins s σ H Q I h
  refine isTrue_or (thn (ha pins s σ H Q I h) fun c s1 e => ?_)
  cases c with
  | false => exact isTrue_or_nil e
  | true => exact e
theorem pw_and (ha : PT X a tA) (hb : PW X (.BoolOp .And (b :: rest) pos) tB') : PW X (.BoolOp .And (a :: b :: rest) pos) (tAnd tA tB') := by
  intro wh pins s σ H Q I h
  refine isTrue_and (thn (ha pins s σ H _ I h) fun c s1 ⟨H1, I1, q1⟩ => ?_)
  cases c with
  | true => exact hb wh pins s1 σ H1 Q I1 q1
  | false => exact ⟨H1, I1, q1⟩
theorem pw_or (ha : PT X a tA) (hb : PW X (.BoolOp .Or (b :: rest) pos) tB') : PW X (.BoolOp .Or (a :: b :: rest) pos) (tOr tA tB') := by
  intro wh pins s σ H Q I h
  refine isTrue_or (thn (ha pins s σ H _ I h) fun c s1 ⟨H1, I1, q1⟩ => ?_)
  cases c with
  | true => exact ⟨H1, I1, q1⟩
  | false => exact hb wh pins s1 σ H1 Q I1 q1
theorem pt_not (ha : PT X a tA) : PT X (.UnaryOp .Not a pos) (tNot tA) := by
  intro pins s σ H Q I h
  exact isTrue_not (ha pins s σ H (fun c H1 => Q (!c) H1) I h)
noncomputable def tAndV (ta tb : TE) : TE := fun σ H Q => ta σ H fun x H1 => ∃ c, x = .bl c ∧ if c = true then tb σ H1 Q else Q (.bl false) H1
noncomputable def tOrV (ta tb : TE) : TE := fun σ H Q => ta σ H fun x H1 => ∃ c, x = .bl c ∧ if c = true then Q (.bl true) H1 else tb σ H1 Q
noncomputable def tNotV (ta : TE) : TE := fun σ H Q => ta σ H fun x H1 => ∃ c, x = .bl c ∧ Q (.bl (!c)) H1
theorem pe_one {op} {t : TE} (h : PE X a t) : PE X (.BoolOp op [a] pos) t := fun pins s σ H Q I hw => BoolOp_one (h pins s σ H Q I hw)
theorem pe_and (ha : PE X a ta) (hb : PE X (.BoolOp .And (b :: rest) pos) tb) : PE X (.BoolOp .And (a :: b :: rest) pos) (tAndV ta tb) := by
  intro pins s σ H Q I h
  refine BoolOp_and (thn (ha pins s σ H _ I h) fun v s1 ⟨x, H1, I1, r1, q1⟩ => ?_)
  obtain ⟨c, rfl, q1⟩ := q1
  cases r1
  refine wpAny_truthy_bool ?_
  cases c with
  | true => exact hb pins s1 σ H1 Q I1 q1
  | false => exact ⟨.bl false, H1, I1, rfl, q1⟩
noncomputable def tIf (t : TT) (ta tb : TE) : TE := fun σ H Q => t σ H fun c H1 => if c = true then ta σ H1 Q else tb σ H1 Q
theorem pe_ifExp {c : Expr} (hc : PT X c tA) (ha : PE X a ta) (hb : PE X b tb) : PE X (.IfExp c a b pos) (tIf tA ta tb) := by
  intro pins s σ H Q I h
  refine wpAny_IfExp (thn (hc pins s σ H _ I h) fun d s1 ⟨H1, I1, q1⟩ => ?_)
  cases d with
  | true => exact ha pins s1 σ H1 Q I1 q1
  | false => exact hb pins s1 σ H1 Q I1 q1
end
end L2

namespace L2
open PySem PySem.Spec PyProof.Rows

noncomputable def SqL (K : PySem.W.Frag) (H : Hp) (a : Addr) (xs : List V) : Prop :=
  Rd H a (.lst xs) ∨
    ∃ (o : Obj) (its : Array Value) (n : Nat), K.lookup a = some o ∧ o.cls = .type "list" ∧ o.dict = none ∧ o.data = .seq its n ∧ its.size ≤ sizeLine ∧ Vals xs its.toList
noncomputable def SqT (K : PySem.W.Frag) (H : Hp) (a : Addr) (xs : List V) : Prop :=
  Rd H a (.tup xs) ∨
    ∃ (o : Obj) (its : Array Value) (n : Nat), K.lookup a = some o ∧ o.cls = .type "tuple" ∧ o.data = .seq its n ∧ its.size ≤ sizeLine ∧ Vals xs its.toList
noncomputable def absV : Value → Option V
  | .none => some .non
  | .bool b => some (.bl b)
  | .int i _ => some (.int i)
  | .str x _ => some (.str x)
  | .bytes b _ => some (.byt b)
  | .float b _ => some (.flt b)
  | .ref a => some (.ref a)
  | .type n => some (.ty n)
  | _ => none
theorem RelV.abs {x : V} {u : Value} (r : RelV x u) : absV u = some x := by
  cases x with
  | non => cases r; rfl
  | bl _ => cases r; rfl
  | int _ => obtain ⟨t, rfl⟩ := r; rfl
  | str _ => obtain ⟨t, rfl⟩ := r; rfl
  | byt _ => obtain ⟨t, rfl⟩ := r; rfl
  | flt _ => obtain ⟨t, rfl⟩ := r; rfl
  | ref _ => cases r; rfl
  | ty _ => cases r; rfl
theorem RelV.inj {x y : V} {u : Value} (r : RelV x u) (q : RelV y u) : x = y := Option.some.inj (r.abs.symm.trans q.abs)
theorem Vals.inj : ∀ {xs ys : List V} {us : List Value}, Vals xs us → Vals ys us → xs = ys
  | _, _, _, .nil, .nil => rfl
  | _, _, _, .cons r t, .cons r' t' => by rw [r.inj r', Vals.inj t t']
section
variable {X : Cx} {pins : List (Addr × Obj)} {σ : St} {H : Hp} {s : Shared} {a : Addr} {xs ys : List V}
theorem SqL.of {K : PySem.W.Frag} (h : H a = some (.lst xs)) : SqL K H a xs := .inl (.inl h)
theorem SqT.of {K : PySem.W.Frag} (h : H a = some (.tup xs)) : SqT K H a xs := .inl (.inl h)
theorem Inv.list (I : Inv X pins σ H s) (h : SqL X.K H a xs) : ∃ its : List Value, Vals xs its ∧ PlainL s.heap a its.toArray ∧ xs.length ≤ sizeLine := by
  rcases h with h | ⟨o, its, n, hk, hc, hd, hs, hz, r⟩
  · obtain ⟨z, its, n, r, e⟩ := h.ok I.hok
    exact ⟨its, r, ⟨_, n, e, rfl, rfl, rfl⟩, z⟩
  · refine ⟨its.toList, r, ⟨o, n, I.kIn a o hk, hc, hd, by simpa using hs⟩, ?_⟩
    have e := r.length
    simp only [Array.length_toList] at e
    omega
theorem Inv.tuple (I : Inv X pins σ H s) (h : SqT X.K H a xs) : ∃ its : List Value, Vals xs its ∧ IsTup s.heap a its.toArray ∧ xs.length ≤ sizeLine := by
  rcases h with h | ⟨o, its, n, hk, hc, hs, hz, r⟩
  · obtain ⟨z, its, r, p⟩ := h.ok I.hok
    exact ⟨its, r, p, z⟩
  · refine ⟨its.toList, r, ⟨o, I.kIn a o hk, hc, n, by simpa using hs⟩, ?_⟩
    have e := r.length
    simp only [Array.length_toList] at e
    omega
theorem Inv.list_inj (I : Inv X pins σ H s) (h : SqL X.K H a xs) (h' : SqL X.K H a ys) : xs = ys := by
  obtain ⟨its, r, ⟨o, n, e, _, _, d⟩, _⟩ := I.list h
  obtain ⟨its', r', ⟨o', n', e', _, _, d'⟩, _⟩ := I.list h'
  rw [e] at e'; cases e'
  rw [d] at d'
  injection d' with d1 _
  have : its = its' := by simpa using congrArg Array.toList d1
  subst this
  exact r.inj r'
theorem Inv.tuple_inj (I : Inv X pins σ H s) (h : SqT X.K H a xs) (h' : SqT X.K H a ys) : xs = ys := by
  obtain ⟨its, r, ⟨o, e, _, n, d⟩, _⟩ := I.tuple h
  obtain ⟨its', r', ⟨o', e', _, n', d'⟩, _⟩ := I.tuple h'
  rw [e] at e'; cases e'
  rw [d] at d'
  injection d' with d1 _
  have : its = its' := by simpa using congrArg Array.toList d1
  subst this
  exact r.inj r'
end

abbrev Cx.wish (X : Cx) (E : Value → Shared → Prop) : Cx := { X with xe := E }
abbrev Cx.nox (X : Cx) : Cx := X.wish fun _ _ => False
theorem Cx.Ok.wish {X : Cx} (ok : X.Ok) (E : Value → Shared → Prop) : (X.wish E).Ok :=
  ⟨ok.mod, ok.kind, ok.glob, ok.blt, ok.above, ok.inj, ok.has, ok.cab, ok.hd, ok.frames, ok.stk, ok.exf, ok.bs, ok.bsz, ok.noex, ok.exfs, ok.funs, ok.frf⟩
theorem Cx.Ok.unwish {X : Cx} {E : Value → Shared → Prop} (ok : (X.wish E).Ok) : X.Ok :=
  ⟨ok.mod, ok.kind, ok.glob, ok.blt, ok.above, ok.inj, ok.has, ok.cab, ok.hd, ok.frames, ok.stk, ok.exf, ok.bs, ok.bsz, ok.noex, ok.exfs, ok.funs, ok.frf⟩
section
variable {X : Cx} {pins : List (Addr × Obj)} {σ : St} {H : Hp} {s : Shared} {E : Value → Shared → Prop}
theorem Inv.wish (I : Inv X pins σ H s) (E : Value → Shared → Prop) : Inv (X.wish E) pins σ H s := ⟨I.ok.wish E, I.os, I.bare, I.base, I.loc, I.cell, I.free, I.freeC, I.pin, I.hok, I.len⟩
theorem Inv.unwish (I : Inv (X.wish E) pins σ H s) : Inv X pins σ H s := ⟨I.ok.unwish, I.os, I.bare, I.base, I.loc, I.cell, I.free, I.freeC, I.pin, I.hok, I.len⟩
theorem SP.unwish {D : Ends} {f : Flow} {s' : Shared} (h : SP (X.wish E) pins D f s') : SP X pins D f s' := by
  cases f with
  | next => obtain ⟨σ', H', I, q⟩ := h; exact ⟨σ', H', I.unwish, q⟩
  | brk => obtain ⟨σ', H', I, q⟩ := h; exact ⟨σ', H', I.unwish, q⟩
  | cont => obtain ⟨σ', H', I, q⟩ := h; exact ⟨σ', H', I.unwish, q⟩
  | ret u => obtain ⟨v, σ', H', I, r, q⟩ := h; exact ⟨v, σ', H', I.unwish, r, q⟩
theorem PSs.nox {st : List Stmt} {t : TS} (h : PSs X.nox st t) : PSs X st t := fun pins s σ H D I hw =>
  wpAny_mono (h pins s σ H D (I.wish _) hw) (fun _ _ q => q.unwish) fun _ _ z => False.elim z
end

section
variable {X : Cx} {st : Stmt} {rest : List Stmt} {t u : TS} {e : Expr} {te : TE} {pos : Pos}
noncomputable def tNext : TS := fun D σ H => D.nx σ H
noncomputable def tSeq (t u : TS) : TS := fun D σ H => t { D with nx := u D } σ H
theorem pss_nil : PSs X [] tNext := fun _ _ σ H _ I h => wpAny_execs_nil ⟨σ, H, I, h⟩
theorem pss_cons (h1 : PS X st t) (h2 : PSs X rest u) : PSs X (st :: rest) (tSeq t u) := by
  intro pins s σ H D I h
  refine wpAny_execs_cons (thn (h1 pins s σ H { D with nx := u D } I h) fun f s1 q => ?_)
  cases f with
  | next =>
    obtain ⟨σ', H', I', q⟩ := q
    exact h2 pins s1 σ' H' D I' q
  | ret v => exact q
  | brk => exact q
  | cont => exact q
theorem pss_one (h1 : PS X st t) : PSs X [st] t := by
  intro pins s σ H D I h
  refine wpAny_execs_cons (thn (h1 pins s σ H D I h) fun f s1 q => ?_)
  cases f with
  | next => exact wpAny_execs_nil q
  | ret v => exact q
  | brk => exact q
  | cont => exact q
theorem Inv.quiet {pins : List (Addr × Obj)} {σ : St} {H : Hp} {s : Shared} (I : Inv X pins σ H s) : interactive X.env = false := by simp [interactive, I.ok.kind]
noncomputable def tDrop (te : TE) : TS := fun D σ H => te σ H fun _ H1 => D.nx σ H1
theorem ps_expr (he : PE X e te) (hs : swapsWith e none pos.line X.env = pure false := by rfl) : PS X (.Expr e pos) (tDrop te) := by
  intro pins s σ H D I h
  exact wpAny_Expr_any (thn (he pins s σ H _ I h) fun v s1 ⟨x, H1, I1, r1, q1⟩ => ⟨σ, H1, I1, q1⟩) I.quiet hs
noncomputable def tRet (te : TE) : TS := fun D σ H => te σ H D.rt
theorem ps_ret (he : PE X e te) : PS X (.Return (some e) pos) (tRet te) := by
  intro pins s σ H D I h
  exact wpAny_Return_some (thn (he pins s σ H _ I h) fun v s1 ⟨x, H1, I1, r1, q1⟩ => ⟨x, σ, H1, I1, r1, q1⟩)
noncomputable def tIfS (c : TT) (t u : TS) : TS := fun D σ H => c σ H fun b H1 => if b = true then t D σ H1 else u D σ H1
theorem ps_if {c : Expr} {a b : List Stmt} {tc : TT} (hc : PT X c tc) (ha : PSs X a t) (hb : PSs X b u) : PS X (.If c a b pos) (tIfS tc t u) := by
  intro pins s σ H D I h
  refine wpAny_If (thn (hc pins s σ H _ I h) fun d s1 ⟨H1, I1, q1⟩ => ?_)
  cases d with
  | true => exact ha pins s1 σ H1 D I1 q1
  | false => exact hb pins s1 σ H1 D I1 q1
noncomputable def tNever : TS := fun _ _ _ => False
theorem ps_never : PS X st tNever := fun _ _ _ _ _ _ h => h.elim
theorem pss_never {sts : List Stmt} : PSs X sts tNever := fun _ _ _ _ _ _ h => h.elim
end

abbrev TG := V → St → Hp → (St → Hp → Prop) → Prop
abbrev TGs := List V → St → Hp → (St → Hp → Prop) → Prop
noncomputable def PG (X : Cx) (target : Expr) (t : TG) : Prop :=
  ∀ (pins : List (Addr × Obj)) (s : Shared) (σ : St) (H : Hp) (v : V) (u : Value) (Q : St → Hp → Prop), Inv X pins σ H s → RelV v u → t v σ H Q →
    wpAny (model X.prog X.w) X.A (assign target X.env u) (fun _ s' => ∃ σ' H', Inv X pins σ' H' s' ∧ Q σ' H') X.xe s
noncomputable def PGs (X : Cx) (ts : List Expr) (t : TGs) : Prop :=
  ∀ (pins : List (Addr × Obj)) (s : Shared) (σ : St) (H : Hp) (vs : List V) (us : List Value) (Q : St → Hp → Prop), Inv X pins σ H s → Vals vs us → t vs σ H Q →
    wpAny (model X.prog X.w) X.A (assignInOrder ((assignEach ts X.env).map (·.2)) us) (fun _ s' => ∃ σ' H', Inv X pins σ' H' s' ∧ Q σ' H') X.xe s
abbrev TSet := V → V → V → Hp → (Hp → Prop) → Prop
noncomputable def PSet (X : Cx) (t : TSet) : Prop :=
  ∀ (pins : List (Addr × Obj)) (s : Shared) (σ : St) (H : Hp) (o i v : V) (ov iv u : Value) (Q : Hp → Prop), Inv X pins σ H s → RelV o ov → RelV i iv → RelV v u → t o i v H Q →
    wpAny (model X.prog X.w) X.A (setItem ov iv u) (fun _ s' => ∃ H', Inv X pins σ H' s' ∧ Q H') X.xe s
abbrev TIp := V → V → Hp → VK → Prop
noncomputable def PIp (X : Cx) (op : Operator) (t : TIp) : Prop :=
  ∀ (pins : List (Addr × Obj)) (s : Shared) (σ : St) (H : Hp) (x y : V) (v u : Value) (Q : VK), Inv X pins σ H s → RelV x v → RelV y u → t x y H Q →
    wpAny (model X.prog X.w) X.A (inplaceOp op v u) (EP X pins σ Q) X.xe s
section
variable {X : Cx} {pos : Pos}
noncomputable def gName (i : Nat) : TG := fun v σ H Q => Q (σ.set i (some v)) H
theorem pg_name {i : Nat} {x : Str} (hN : X.N.Nodup) (hi : X.N[i]? = some x) (hx : Loc X.env.scope x) (hf : X.fn x = true ∨ X.env.scope.names.lookup x = some .local := by first | exact .inl rfl | exact .inr rfl | assumption) : PG X (.Name x pos) (gName i) := by
  intro pins s σ H v u Q I r h
  exact wpAny_assign_Name (store_ok I hN hi hx r (fun s' I' => ⟨_, H, I', h⟩) hf)
noncomputable def gNil : TGs := fun vs σ H Q => vs = [] ∧ Q σ H
noncomputable def gCons (t : TG) (u : TGs) : TGs := fun vs σ H Q => ∃ v r, vs = v :: r ∧ t v σ H fun σ' H' => u r σ' H' Q
theorem pgs_nil : PGs X [] gNil := by
  intro pins s σ H vs us Q I r h
  obtain ⟨e, h⟩ := h
  subst e
  cases r
  exact assignInOrder_nil ⟨σ, H, I, h⟩
theorem pgs_cons {e : Expr} {es : List Expr} {t : TG} {u : TGs} (h1 : PG X e t) (h2 : PGs X es u)
    (hs : (assignEach (e :: es) X.env).map (·.2) = assign e X.env :: (assignEach es X.env).map (·.2) := by rfl) : PGs X (e :: es) (gCons t u) := by
  intro pins s σ H vs us Q I r h
  obtain ⟨v, vr, e1, h⟩ := h
  subst e1
  cases r with
  | cons r rr =>
    rw [hs]
    refine assignInOrder_cons (thn (h1 pins s σ H _ _ _ I r h) fun _ s1 ⟨σ1, H1, I1, q1⟩ => ?_)
    exact h2 pins s1 σ1 H1 _ _ Q I1 rr q1
noncomputable def gTup (K : PySem.W.Frag) (n : Nat) (t : TGs) : TG := fun v σ H Q => ∃ a xs, v = .ref a ∧ SqT K H a xs ∧ xs.length = n ∧ t xs σ H Q
theorem pg_tup {es : List Expr} {k : Nat} {t : TGs} {n : Nat} (hc : X.calm = true) (h : PGs X es t)
    (hn : (assignEach es X.env).length = n := by rfl) (hst : (assignEach es X.env).findIdx? (·.1) = none := by rfl) : PG X (.Tuple es k pos) (gTup X.K n t) := by
  intro pins s σ H v u Q I r hw
  obtain ⟨a, xs, e1, hq, hl, hw⟩ := hw
  subst e1
  cases r
  obtain ⟨its, rv, ht, hz⟩ := I.tuple hq
  refine assign_Tuple_tuple (I.ok.hd hc) ht (by simp [hn, ← hl, rv.length]) hst fun h' hx => ?_
  have I1 : Inv X pins σ H { s with heap := h' } := I.kept (t' := s.toks) fun b o e => hx b o (Nat.ne_of_lt (Heap.lt_size e)) e
  exact h pins _ σ H xs _ Q I1 (by simpa using rv) hw
noncomputable def gSub (to ti : TE) (t : TSet) : TG := fun v σ H Q => to σ H fun o H1 => ti σ H1 fun i H2 => t o i v H2 fun H3 => Q σ H3
theorem pg_sub {o i : Expr} {to ti : TE} {t : TSet} (ho : PE X o to) (hi : PE X i ti) (hs : PSet X t)
    (ha : ∀ v, assign (.Subscript o i pos) X.env v = (do
      let ov ← holding [v] (eval o X.env)
      let iv ← holding [v, ov] (eval i X.env)
      standAt pos
      holding [v, ov, iv] (setItem ov iv v)
      release [v, ov, iv] []) := by intro _; rfl) : PG X (.Subscript o i pos) (gSub to ti t) := by
  intro pins s σ H v u Q I r h
  rw [ha]
  refine wpAny_bind (wpAny_holding (thn (ho pins s σ H _ I h) fun ov s1 ⟨x, H1, I1, r1, q1⟩ => ?_))
  refine wpAny_bind (wpAny_holding (thn (hi pins s1 σ H1 _ I1 q1) fun iv s2 ⟨y, H2, I2, r2, q2⟩ => ?_))
  refine wpAny_bind (wpAny_standAt (wpAny_bind (wpAny_holding (thn (hs pins s2 σ H2 x y v ov iv u _ I2 r1 r2 r q2) fun _ s3 ⟨H3, I3, q3⟩ => ?_))))
  exact wpAny_release ⟨σ, H3, I3, q3⟩
noncomputable def tAsg (te : TE) (g : TG) : TS := fun D σ H => te σ H fun x H1 => g x σ H1 D.nx
theorem ps_asg {tg e : Expr} {te : TE} {g : TG} (he : PE X e te) (hg : PG X tg g) (hs : swapsWithSole [tg] e pos.line X.env = pure false := by rfl) (hw : swappedStores [tg] e X.env = pure none := by rfl)
    (h1 : (assignEach [tg] X.env).map (·.2) = [assign tg X.env] := by rfl) : PS X (.Assign [tg] e pos) (tAsg te g) := by
  intro pins s σ H D I h
  refine wpAny_Assign_stores (thn (he pins s σ H _ I h) fun v s1 ⟨x, H1, I1, r1, q1⟩ => ?_) hs hw
  rw [h1]
  exact thn (hg pins s1 σ H1 x v _ I1 r1 q1) fun _ s2 q => q
theorem ps_set {i : Nat} {x : Str} {e : Expr} {te : TE} {pos' : Pos} (hN : X.N.Nodup) (hi : X.N[i]? = some x) (hx : Loc X.env.scope x) (he : PE X e te) (hs : swapsWith e (some (.Name x pos')) pos.line X.env = pure false := by rfl) (hf : X.fn x = true ∨ X.env.scope.names.lookup x = some .local := by first | exact .inl rfl | exact .inr rfl | assumption) :
    PS X (.Assign [.Name x pos'] e pos) (tAsg te (gName i)) := by
  intro pins s σ H D I h
  refine wpAny_Assign_Name (thn (he pins s σ H _ I h) fun v s1 ⟨y, H1, I1, r1, q1⟩ => ?_) hs
  exact store_ok I1 hN hi hx r1 (fun s2 I2 => ⟨_, H1, I2, q1⟩) hf
noncomputable def tAug (i : Nat) (te : TE) (ti : TIp) : TS := fun D σ H => ∃ x, σ[i]? = some (some x) ∧ te σ H fun y H1 => ti x y H1 fun z H2 => D.nx (σ.set i (some z)) H2
theorem ps_aug {i : Nat} {x : Str} {e : Expr} {te : TE} {op : Operator} {ti : TIp} {pos' : Pos} (hN : X.N.Nodup) (hi : X.N[i]? = some x) (hx : Loc X.env.scope x) (he : PE X e te) (ho : PIp X op ti) (hf : X.fn x = true ∨ X.env.scope.names.lookup x = some .local := by first | exact .inl rfl | exact .inr rfl | assumption) :
    PS X (.AugAssign (.Name x pos') op e pos) (tAug i te ti) := by
  intro pins s σ H D I h
  obtain ⟨v, e1, h⟩ := h
  obtain ⟨m, hn, hl⟩ := I.loc
  have vis : Vis X.env.scope x := by rcases hx with k | k; exact .inl k; exact .inr (.inl k)
  obtain ⟨u, r, l⟩ := hl i x v hi e1 vis
  refine wpAny_AugAssign_Name ?_
  have go : wpAny (model X.prog X.w) X.A (eval e X.env) (fun w s₂ => wpAny (model X.prog X.w) X.A (inplaceOp op u w) (fun r s₃ => wpAny (model X.prog X.w) X.A (storeName X.env x r) (fun _ => SP X pins D .next) X.xe s₃) X.xe s₂) X.xe s := by
    refine thn (he pins s σ H _ I h) fun w s1 ⟨y, H1, I1, r1, q1⟩ => ?_
    refine thn (ho pins s1 σ H1 v y u w _ I1 r r1 q1) fun z s2 ⟨zv, H2, I2, r2, q2⟩ => ?_
    exact store_ok I2 hN hi hx r2 (fun s3 I3 => ⟨_, H2, I3, q2⟩) hf
  rcases l with ⟨hk, hm⟩ | ⟨hk, c, hc, hcell⟩
  · exact wpAny_loadName_local I.ok.kind hk hn hm go
  · rcases hk with hk | hk
    · exact wpAny_loadName_cell I.ok.kind hk hc hcell go
    · rcases hx with k | k
      · have : X.env.scope.names.lookup x = some .free := hk
        rw [k] at this; cases this
      · have : X.env.scope.names.lookup x = some .free := hk
        rw [k] at this; cases this
noncomputable def ipI (f : Int → Int → Int) : TIp := fun x y H Q => ∃ i j, x = .int i ∧ y = .int j ∧ Q (.int (f i j)) H
theorem ip_add : PIp X .Add (ipI fun i j => i + j) := by
  intro pins s σ H x y v u Q I r1 r2 h
  obtain ⟨i, j, e1, e2, q⟩ := h
  subst e1; subst e2
  obtain ⟨t, rfl⟩ := r1
  obtain ⟨t', rfl⟩ := r2
  exact iadd_int ⟨.int _, H, I.tok _, ⟨_, rfl⟩, q⟩
end

section
variable {X : Cx} {pos : Pos}
noncomputable def tWhile (c : TT) (tb : TS) : TS := fun D σ H => ∃ W : Nat → St → Hp → Prop, (∃ m, W m σ H) ∧ ∀ m σ H, W m σ H →
  c σ H fun b H1 => if b = true then ∃ N : St → Hp → Prop, (∀ σ' H', N σ' H' → ∃ m', m' < m ∧ W m' σ' H') ∧ tb { D with nx := N, ct := N, bk := D.nx } σ H1 else D.nx σ H1
theorem ps_while {c : Expr} {body : List Stmt} {tc : TT} {tb : TS} (hp : PassesOwn (model X.prog X.w) X.A X.env X.xe) (hc : PT X c tc) (hb : PSs X body tb) : PS X (.While c body [] pos) (tWhile tc tb) := by
  intro pins s σ H D I h
  obtain ⟨W, ⟨m0, w0⟩, turn⟩ := h
  refine wpAny_While (codeAny_whileLoop (fun n s' => ∃ σ' H', Inv X pins σ' H' s' ∧ W n σ' H') ?_ m0 ⟨σ, H, I, w0⟩)
  rintro n s1 ⟨σ1, H1, I1, w1⟩
  refine wpAny_passesOwn hp (thn (hc pins s1 σ1 H1 _ I1 (turn n σ1 H1 w1)) fun b s2 ⟨H2, I2, q2⟩ => ?_)
  cases b with
  | true =>
    obtain ⟨N, hN, q2⟩ := q2
    rw [if_pos rfl]
    refine wpAny_passesOwn hp (thn (hb pins s2 σ1 H2 _ I2 q2) fun f s3 q3 => ?_)
    cases f with
    | next =>
      obtain ⟨σ3, H3, I3, n3⟩ := q3
      obtain ⟨m', hm, w3⟩ := hN σ3 H3 n3
      exact ⟨m', hm, σ3, H3, I3, w3⟩
    | cont =>
      obtain ⟨σ3, H3, I3, n3⟩ := q3
      obtain ⟨m', hm, w3⟩ := hN σ3 H3 n3
      exact ⟨m', hm, σ3, H3, I3, w3⟩
    | brk => exact q3
    | ret v => exact q3
  | false =>
    rw [if_neg Bool.false_ne_true]
    exact wpAny_execs_nil ⟨σ1, H2, I2, q2⟩
end

structure It where
  go : Nat → Hp → Prop
  yld : Nat → Hp → V → Hp → Prop
  stop : Nat → Hp → Prop
noncomputable def FpOk (X : Cx) (pins : List (Addr × Obj)) (H : Hp) (b : Addr) : Prop :=
  H b = none ∧ b ≠ X.env.locals ∧ b ∉ X.fs ∧ (b ∈ X.ex ∨ X.s₀.heap.objs.size ≤ b) ∧ (∀ x c, X.env.cells.lookup x = some c → c ≠ b) ∧ ∀ p ∈ X.pn ++ pins, p.1 ≠ b
theorem Inv.fpOk {X : Cx} {pins : List (Addr × Obj)} {σ : St} {H H' : Hp} {s : Shared} {b : Addr} (I : Inv X pins σ H s) (hb : s.heap.objs.size ≤ b) (hn : H' b = none) : FpOk X pins H' b := by
  refine ⟨hn, Nat.ne_of_gt (Nat.lt_of_lt_of_le I.lt hb), I.nofs hb, .inr (Nat.le_trans I.sz hb), fun x c e z => ?_, fun p hp z => ?_⟩
  · obtain ⟨v, q⟩ := I.cell x c e
    exact absurd (Nat.lt_of_lt_of_le q.lt (by rw [z]; exact hb)) (Nat.lt_irrefl _)
  · exact absurd (Nat.lt_of_lt_of_le (Heap.lt_size (I.pin p hp).1) (by rw [z]; exact hb)) (Nat.lt_irrefl _)
structure Turn (P : Program) (w : World) (K : PySem.W.Frag) (tg : Expr) (J : It) (fp : List Addr) (it : Addr) (tn : Nat → Heap → Prop) : Prop where
  mem : it ∈ fp
  obj : ∀ i h, tn i h → ∀ b ∈ fp, ∃ o, h.get? b = some o ∧ ∀ v, o.data ≠ .cell v
  keep : ∀ i h h', tn i h → (∀ b ∈ fp, ∀ o, h.get? b = some o → h'.get? b = some o) → tn i h'
  item : ∀ (X : Cx), X.prog = P → X.w = w → X.K = K → X.calm = true → ∀ (i : Nat) (pins : List (Addr × Obj)) (s : Shared) (σ : St) (H : Hp) (E : Value → Shared → Prop), Inv X pins σ H s → (∀ b ∈ fp, FpOk X pins H b) → tn i s.heap → J.go i H →
    wpAny (model P w) X.A (pyNext (.ref it)) (fun r s1 => ∃ u, r = some u ∧
      wpAny (model P w) X.A (letOwnedTupleGo tg (.ref it) u) (fun _ s2 => ∃ x H', Inv X pins σ H' s2 ∧ RelV x u ∧ J.yld i H x H' ∧ tn (i + 1) s2.heap ∧ ∀ b ∈ fp, H' b = none) E s1) E s
  done : ∀ (X : Cx), X.prog = P → X.w = w → X.K = K → X.calm = true → ∀ (i : Nat) (pins : List (Addr × Obj)) (s : Shared) (σ : St) (H : Hp) (E : Value → Shared → Prop), Inv X pins σ H s → (∀ b ∈ fp, FpOk X pins H b) → tn i s.heap → J.stop i H →
    wpAny (model P w) X.A (pyNext (.ref it)) (fun r s1 => r = none ∧ Inv X pins σ H s1) E s
  self : ∀ (A : Around) (i : Nat) (s : Shared) (Q : Value → Shared → Prop) (E : Value → Shared → Prop), tn i s.heap → Q (.ref it) s → wpAny (model P w) A (pyIter (.ref it)) Q E s
abbrev TI := St → Hp → (It → Hp → Prop) → Prop
noncomputable def PIE (X : Cx) (pins : List (Addr × Obj)) (σ : St) (tg : Expr) (R : It → Hp → Prop) (itv : Value) (s2 : Shared) : Prop :=
  ∃ (it : Addr) (fp : List Addr) (tn : Nat → Heap → Prop) (J : It) (H' : Hp), itv = .ref it ∧ Inv X pins σ H' s2 ∧ Turn X.prog X.w X.K tg J fp it tn ∧ tn 0 s2.heap ∧ (∀ b ∈ fp, FpOk X pins H' b) ∧ R J H'
noncomputable def PI (X : Cx) (tg iter : Expr) (wi : TI) : Prop :=
  ∀ (pins : List (Addr × Obj)) (s : Shared) (σ : St) (H : Hp) (R : It → Hp → Prop), Inv X pins σ H s → wi σ H R →
    wpAny (model X.prog X.w) X.A (eval iter X.env) (fun v s1 => wpAny (model X.prog X.w) X.A (pyIter v) (PIE X pins σ tg R) X.xe s1) X.xe s

theorem go_of {M : Model} {A : Around} {E : Value → Shared → Prop} {s : Shared} {tg : Expr} {it : Addr} {u : Value} {o : Obj} {n : String} {vs : Array Value} {Q : Unit → Shared → Prop} (ho : s.heap.get? it = some o) (hc : o.cls = .type n) (hd : o.data = .fields vs)
    (hn : ["enumerate", "zip", "dict_itemiterator", "dict_reverseitemiterator", "odict_iterator", "itertools.zip_longest", "itertools.pairwise"].contains n = false) (hQ : Q () s) : wpAny M A (letOwnedTupleGo tg (.ref it) u) Q E s := by
  unfold letOwnedTupleGo
  cases tg <;> first
    | exact wpAny_pure hQ
    | (cases u <;> first
        | exact wpAny_pure hQ
        | (refine wpAny_bind (wpAny_load ho ?_)
           rw [hc, hd]
           show wpAny M A (if (["enumerate", "zip", "dict_itemiterator", "dict_reverseitemiterator", "odict_iterator", "itertools.zip_longest", "itertools.pairwise"].contains n && vs[0]? == some (rawInt _)) = true then _ else _) Q E s
           rw [if_neg (by intro h; rw [hn, Bool.false_and] at h; cases h)]
           exact wpAny_pure hQ))

noncomputable def Itl (K : PySem.W.Frag) (a : Addr) : It :=
  ⟨fun i H => ∃ xs x, SqL K H a xs ∧ xs[i]? = some x, fun i H x H' => H' = H ∧ ∀ xs, SqL K H a xs → xs[i]? = some x, fun i H => ∃ xs, SqL K H a xs ∧ xs.length ≤ i⟩
noncomputable def Itt (K : PySem.W.Frag) (a : Addr) : It :=
  ⟨fun i H => ∃ xs x, SqT K H a xs ∧ xs[i]? = some x, fun i H x H' => H' = H ∧ ∀ xs, SqT K H a xs → xs[i]? = some x, fun i H => ∃ xs, SqT K H a xs ∧ xs.length ≤ i⟩
noncomputable def Itr (lo : Int) (n : Nat) : It := ⟨fun i _ => i < n, fun i H x H' => H' = H ∧ x = .int (lo + i), fun i _ => n ≤ i⟩
theorem turn_list {P : Program} {w : World} {K : PySem.W.Frag} {tg : Expr} (a it : Addr) : Turn P w K tg (Itl K a) [it] it (fun i h => h.IsListIter it a i) where
  mem := by simp
  obj := fun i h st b hb => by
    have e : b = it := by simpa using hb
    subst e
    obtain ⟨o, e, c, d⟩ := st
    exact ⟨o, e, fun v z => by rw [d] at z; cases z⟩
  keep := fun i h h' st k => st.at fun o e => k it (by simp) o e
  item := by
    intro X hP hw hK hc i pins s σ H E I hf st hg
    subst hP hw hK
    obtain ⟨xs, x, hq, hx⟩ := hg
    obtain ⟨its, rv, p, hz⟩ := I.list hq
    obtain ⟨u, hu, ru⟩ := rv.get hx
    obtain ⟨f0, f1, f2, f3, f4, f5⟩ := hf it (by simp)
    refine wpAny_pyNext_list_item st p.isList (x := u) (by simpa using hu) fun h' st' sb => ?_
    have I1 : Inv X pins σ H { s with heap := h' } := I.turned (t' := s.toks) (fun b o hb e => (sb.2 b hb).trans e) f0 f1 f3 f4 f5
    obtain ⟨o, e, c, d⟩ := id st'
    exact ⟨u, rfl, go_of (s := { s with heap := h' }) e c d (by decide) ⟨x, H, I1, ru, ⟨rfl, fun ys hy => by rw [I.list_inj hy hq]; exact hx⟩, st', fun b hb => (hf b hb).1⟩⟩
  done := by
    intro X hP hw hK hc i pins s σ H E I hf st hg
    subst hP hw hK
    obtain ⟨xs, hq, hx⟩ := hg
    obtain ⟨its, rv, p, hz⟩ := I.list hq
    obtain ⟨f0, f1, f2, f3, f4, f5⟩ := hf it (by simp)
    have hl := rv.length
    exact wpAny_pyNext_list_end (I.ok.hd hc) st p.isList (by simp; omega) fun h' eb => ⟨rfl, I.turned (t' := s.toks) (fun b o hb e => eb b o hb e) f0 f1 f3 f4 f5⟩
  self := fun _ _ _ _ _ st h => wpAny_pyIter_listiter st h
theorem turn_tuple {P : Program} {w : World} {K : PySem.W.Frag} {tg : Expr} (a it : Addr) : Turn P w K tg (Itt K a) [it] it (fun i h => h.IsTupleIter it a i) where
  mem := by simp
  obj := fun i h st b hb => by
    have e : b = it := by simpa using hb
    subst e
    obtain ⟨o, e, c, d⟩ := st
    exact ⟨o, e, fun v z => by rw [d] at z; cases z⟩
  keep := fun i h h' st k => st.at fun o e => k it (by simp) o e
  item := by
    intro X hP hw hK hc i pins s σ H E I hf st hg
    subst hP hw hK
    obtain ⟨xs, x, hq, hx⟩ := hg
    obtain ⟨its, rv, p, hz⟩ := I.tuple hq
    obtain ⟨u, hu, ru⟩ := rv.get hx
    obtain ⟨f0, f1, f2, f3, f4, f5⟩ := hf it (by simp)
    refine wpAny_pyNext_tuple_item st (show s.heap.IsTuple a its.toArray from p) (x := u) (by simpa using hu) fun h' st' sb => ?_
    have I1 : Inv X pins σ H { s with heap := h' } := I.turned (t' := s.toks) (fun b o hb e => (sb.2 b hb).trans e) f0 f1 f3 f4 f5
    obtain ⟨o, e, c, d⟩ := id st'
    exact ⟨u, rfl, go_of (s := { s with heap := h' }) e c d (by decide) ⟨x, H, I1, ru, ⟨rfl, fun ys hy => by rw [I.tuple_inj hy hq]; exact hx⟩, st', fun b hb => (hf b hb).1⟩⟩
  done := by
    intro X hP hw hK hc i pins s σ H E I hf st hg
    subst hP hw hK
    obtain ⟨xs, hq, hx⟩ := hg
    obtain ⟨its, rv, p, hz⟩ := I.tuple hq
    obtain ⟨f0, f1, f2, f3, f4, f5⟩ := hf it (by simp)
    have hl := rv.length
    exact wpAny_pyNext_tuple_end (I.ok.hd hc) st (show s.heap.IsTuple a its.toArray from p) (by simp; omega) fun h' eb => ⟨rfl, I.turned (t' := s.toks) (fun b o hb e => eb b o hb e) f0 f1 f3 f4 f5⟩
  self := fun _ _ _ _ _ st h => wpAny_pyIter_tupleiter st h
theorem turn_range {P : Program} {w : World} {K : PySem.W.Frag} {tg : Expr} (it : Addr) (lo : Int) (n : Nat) : Turn P w K tg (Itr lo n) [it] it (fun i h => IsRangeIter h it (lo + (i : Nat) * 1) ((n : Int) - (i : Nat)) 1) where
  mem := by simp
  obj := fun i h st b hb => by
    have e : b = it := by simpa using hb
    subst e
    exact ⟨_, st, fun v z => by
      have z' : Data.fields _ = Data.cell v := z
      cases z'⟩
  keep := fun i h h' st k => k it (by simp) _ st
  item := by
    intro X hP hw hK hc i pins s σ H E I hf st hg
    subst hP hw hK
    obtain ⟨f0, f1, f2, f3, f4, f5⟩ := hf it (by simp)
    have W := Walks.range (prog := X.prog) (w := X.w) (I.ok.hd hc) it lo 1 n
    refine W.item i s _ _ hg st fun v h' tk hv st' kk => ?_
    obtain ⟨t, rfl⟩ := hv
    have I1 : Inv X pins σ H { s with heap := h', toks := tk } := I.turned (fun b o hb e => kk b o (by simpa using hb) e) f0 f1 f3 f4 f5
    refine ⟨_, rfl, go_of (s := { s with heap := h', toks := tk }) (n := "range_iterator") st' rfl rfl (by decide) ⟨.int (lo + i), H, I1, ⟨t, ?_⟩, ⟨rfl, rfl⟩, st', fun b hb => (hf b hb).1⟩⟩
    rw [Int.mul_one]
  done := by
    intro X hP hw hK hc i pins s σ H E I hf st hg
    subst hP hw hK
    obtain ⟨f0, f1, f2, f3, f4, f5⟩ := hf it (by simp)
    exact wpAny_pyNext_range_end (I.ok.hd hc) st (by have : n ≤ i := hg; omega) fun h' eb => ⟨rfl, I.turned (t' := s.toks) (fun b o hb e => eb b o hb e) f0 f1 f3 f4 f5⟩
  self := fun _ _ _ _ _ st h => wpAny_pyIter_rangeiter st h
end L2

namespace L2
open PySem PySem.Spec PyProof.Rows
section
variable {X : Cx} {tg : Expr}
noncomputable def iList (K : PySem.W.Frag) (tl : TE) : TI := fun σ H R => tl σ H fun x H1 => ∃ a, x = .ref a ∧ (∃ xs, SqL K H1 a xs) ∧ R (Itl K a) H1
noncomputable def iTup (K : PySem.W.Frag) (tl : TE) : TI := fun σ H R => tl σ H fun x H1 => ∃ a, x = .ref a ∧ (∃ xs, SqT K H1 a xs) ∧ R (Itt K a) H1
theorem pi_list {l : Expr} {tl : TE} (hl : PE X l tl) : PI X tg l (iList X.K tl) := by
  intro pins s σ H R I h
  refine thn (hl pins s σ H _ I h) fun v s1 ⟨x, H1, I1, r1, q1⟩ => ?_
  obtain ⟨a, e, ⟨xs, hq⟩, q⟩ := q1
  subst e
  cases r1
  obtain ⟨its, rv, p, hz⟩ := I1.list hq
  refine wpAny_pyIter_list p.isList ?_
  refine ⟨s1.heap.objs.size, [s1.heap.objs.size], _, _, H1, rfl, I1.kept (t' := s1.toks) fun b o e => Heap.get?_push_of_some _ e, turn_list a _, ⟨_, Heap.get?_push_size _ rfl, rfl, rfl⟩, fun b hb => ?_, q⟩
  have e : b = s1.heap.objs.size := by simpa using hb
  subst e
  exact I1.fpOk (Nat.le_refl _) (I1.hok.fresh (Nat.le_refl _))
theorem pi_tup {l : Expr} {tl : TE} (hl : PE X l tl) : PI X tg l (iTup X.K tl) := by
  intro pins s σ H R I h
  refine thn (hl pins s σ H _ I h) fun v s1 ⟨x, H1, I1, r1, q1⟩ => ?_
  obtain ⟨a, e, ⟨xs, hq⟩, q⟩ := q1
  subst e
  cases r1
  obtain ⟨its, rv, p, hz⟩ := I1.tuple hq
  refine wpAny_pyIter_tuple (show s1.heap.IsTuple a its.toArray from p) ?_
  refine ⟨s1.heap.objs.size, [s1.heap.objs.size], _, _, H1, rfl, I1.kept (t' := s1.toks) fun b o e => Heap.get?_push_of_some _ e, turn_tuple a _, ⟨_, Heap.get?_push_size _ rfl, rfl, rfl⟩, fun b hb => ?_, q⟩
  have e : b = s1.heap.objs.size := by simpa using hb
  subst e
  exact I1.fpOk (Nat.le_refl _) (I1.hok.fresh (Nat.le_refl _))
theorem range_it {pins : List (Addr × Obj)} {σ : St} {H : Hp} {s : Shared} {R : It → Hp → Prop} {E : Value → Shared → Prop} {lo hi : Int} {t u v : Tok} {tk : Nat} (I : Inv X pins σ H s) (h1 : -(2 ^ 62) ≤ lo) (h2 : lo < 2 ^ 62) (h3 : -(2 ^ 62) ≤ hi) (h4 : hi < 2 ^ 62)
    (q : R (Itr lo (hi - lo).toNat) H) : wpAny (model X.prog X.w) X.A (pyIter (.ref s.heap.objs.size)) (PIE X pins σ tg R) E { s with heap := s.heap.push { cls := .type "range", data := .fields #[.int lo t, .int hi u, .int 1 v] }, toks := tk } := by
  refine wpAny_pyIter_range (IsRange.new ..) (small_one h1 h2 h3 h4) ?_
  have I1 : Inv X pins σ H { s with heap := s.heap.push { cls := .type "range", data := .fields #[.int lo t, .int hi u, .int 1 v] }, toks := tk } := I.kept fun b o e => Heap.get?_push_of_some _ e
  refine ⟨(s.heap.push { cls := .type "range", data := .fields #[.int lo t, .int hi u, .int 1 v] }).objs.size, [(s.heap.push { cls := .type "range", data := .fields #[.int lo t, .int hi u, .int 1 v] }).objs.size], _, _, H, rfl,
    I1.kept (t' := tk) fun b o e => Heap.get?_push_of_some _ e, turn_range _ lo (hi - lo).toNat, ?_, fun b hb => ?_, q⟩
  · have e1 : lo + ((0 : Nat) : Int) * 1 = lo := by simp
    have e2 : (((hi - lo).toNat : Nat) : Int) - ((0 : Nat) : Int) = Builtin.Range.rangeSize lo hi 1 := by rw [rangeSize_one]; split <;> omega
    show IsRangeIter _ _ (lo + ((0 : Nat) : Int) * 1) ((((hi - lo).toNat : Nat) : Int) - ((0 : Nat) : Int)) 1
    rw [e1, e2]
    exact Heap.get?_push_size _ rfl
  · have e : b = (s.heap.push { cls := .type "range", data := .fields #[.int lo t, .int hi u, .int 1 v] }).objs.size := by simpa using hb
    subst e
    exact I1.fpOk (Nat.le_refl _) (I1.hok.fresh (Nat.le_refl _))
noncomputable def iRng1 (ta : TA) : TI := fun σ H R => ta σ H fun vs H1 => ∃ j : Int, vs = [.int j] ∧ -(2 ^ 62) ≤ j ∧ j < 2 ^ 62 ∧ R (Itr 0 j.toNat) H1
theorem pi_range1 {a : Expr} {ta : TA} {p pos : Pos} (hg : Gl X "range") (hm : X.mg "range" = none) (ha : PA X [a] ta) (hs : starEach [a] X.env = [(false, eval a X.env)] := by rfl) : PI X tg (.Call (.Name "range" p) [a] [] pos) (iRng1 ta) := by
  intro pins s σ H R I h
  refine Call_ (ld_blt I hg hm boot_range (PyProof.Rows.callWith_type1 (thn (ha pos pins s σ H _ I h) fun us s1 ⟨vs, H1, I1, r1, q1⟩ => ?_) hs rfl))
  obtain ⟨j, e, q1, q2, q⟩ := q1
  subst e
  cases r1 with
  | cons r rr =>
    cases rr
    obtain ⟨t, rfl⟩ := r
    exact call_range_1 (range_it I1 (by omega) (by omega) q1 q2 (by simpa using q))

noncomputable def tFor (wi : TI) (g : TG) (tb : TS) : TS := fun D σ H => wi σ H fun J H1 => ∃ W : Nat → Nat → St → Hp → Prop, (∃ m, W 0 m σ H1) ∧ ∀ i m σ H, W i m σ H →
  (J.stop i H ∧ D.nx σ H) ∨ (J.go i H ∧ ∃ N : St → Hp → Prop, (∀ σ' H', N σ' H' → ∃ m', m' < m ∧ W (i + 1) m' σ' H') ∧ ∀ x H', J.yld i H x H' → g x σ H' fun σ2 H2 => tb { D with nx := N, ct := N, bk := D.nx } σ2 H2)
noncomputable def pinsAt (fp : List Addr) (h : Heap) : List (Addr × Obj) := fp.filterMap fun b => (h.get? b).map fun o => (b, o)
theorem mem_pinsAt {fp : List Addr} {h : Heap} {b : Addr} {o : Obj} (hb : b ∈ fp) (e : h.get? b = some o) : (b, o) ∈ pinsAt fp h := List.mem_filterMap.mpr ⟨b, hb, by rw [e]; rfl⟩
theorem of_pinsAt {fp : List Addr} {h : Heap} {p : Addr × Obj} (hp : p ∈ pinsAt fp h) : p.1 ∈ fp ∧ h.get? p.1 = some p.2 := by
  obtain ⟨b, hb, e⟩ := List.mem_filterMap.mp hp
  cases q : h.get? b with
  | none => rw [q] at e; cases e
  | some o =>
    rw [q] at e
    have e' : (b, o) = p := Option.some.inj e
    subst e'
    exact ⟨hb, q⟩
theorem Inv.pinned {pins : List (Addr × Obj)} {σ : St} {H : Hp} {s : Shared} {fp : List Addr} (I : Inv X pins σ H s) (hf : ∀ b ∈ fp, FpOk X pins H b) (ho : ∀ b ∈ fp, ∃ o, s.heap.get? b = some o ∧ ∀ v, o.data ≠ .cell v) : Inv X (pins ++ pinsAt fp s.heap) σ H s :=
  I.pins_of fun p hp => (List.mem_append.mp hp).elim (fun z => I.pin p (List.mem_append_right _ z)) fun z => by
    obtain ⟨hb, e⟩ := of_pinsAt z
    obtain ⟨f0, f1, f2, _⟩ := hf p.1 hb
    obtain ⟨o, e', d⟩ := ho p.1 hb
    rw [e] at e'; cases e'
    exact ⟨e, f0, f1, f2, d⟩
theorem Inv.unpinned {pins pl : List (Addr × Obj)} {σ : St} {H : Hp} {s : Shared} (I : Inv X (pins ++ pl) σ H s) : Inv X pins σ H s := I.pins_of fun p hp => I.pin p (List.mem_append_right _ (List.mem_append_left _ hp))
theorem ps_for {iter : Expr} {body : List Stmt} {wi : TI} {g : TG} {tb : TS} {pos : Pos} (hp : PassesOwn (model X.prog X.w) X.A X.env X.xe) (hc : X.calm = true) (hi : PI X tg iter wi) (hg : PG X tg g) (hb : PSs X body tb)
    (hs : ∀ x, foldedSetIterable iter X.env x = pure x := by intro _; rfl) : PS X (.For tg iter body [] pos) (tFor wi g tb) := by
  intro pins s σ H D I h
  refine wpAny_For (thn (hi pins s σ H _ I h) fun v s1 h1 => thn h1 fun itv s2 h2 => ?_) hs
  obtain ⟨it, fp, tn, J, H2, e, I2, T, st2, f2, W, ⟨m0, w0⟩, turn⟩ := h2
  subst e
  -- what stays true of the iterator's objects through the loop
  have stat : ∀ {H' : Hp}, (∀ b ∈ fp, H' b = none) → ∀ b ∈ fp, FpOk X pins H' b := fun hn b hb => ⟨hn b hb, (f2 b hb).2⟩
  refine codeAny_forLoop_any (fun n s' => ∃ i σ' H', Inv X pins σ' H' s' ∧ tn i s'.heap ∧ (∀ b ∈ fp, H' b = none) ∧ W i n σ' H') ?_ m0 ⟨0, σ, H2, I2, st2, fun b hb => (f2 b hb).1, w0⟩
  rintro n s3 ⟨i, σ3, H3, I3, st3, fr3, w3⟩
  rcases turn i n σ3 H3 w3 with ⟨stop, qn⟩ | ⟨go, N, hN, step⟩
  · refine wpAny_passesOwn hp (thn (T.done X rfl rfl rfl hc i pins s3 σ3 H3 X.xe I3 (stat fr3) st3 stop) fun r s4 ⟨hr, I4⟩ => ?_)
    subst hr
    exact wpAny_execs_nil ⟨σ3, H3, I4, qn⟩
  · refine wpAny_passesOwn hp (thn (T.item X rfl rfl rfl hc i pins s3 σ3 H3 X.xe I3 (stat fr3) st3 go) fun r s4 ⟨u, hr, h4⟩ => ?_)
    subst hr
    refine wpAny_passesOwn hp (thn h4 fun _ s5 ⟨x, H5, I5, r5, y5, st5, fr5⟩ => ?_)
    have I5' := I5.pinned (stat fr5) (T.obj _ _ st5)
    refine wpAny_passesOwn hp (thn (hg _ s5 σ3 H5 x u _ I5' r5 (step x H5 y5)) fun _ s6 ⟨σ6, H6, I6, q6⟩ => ?_)
    refine wpAny_passesOwn hp (thn (hb _ s6 σ6 H6 _ I6 q6) fun f s7 q7 => ?_)
    have again : ∀ {σ7 : St} {H7 : Hp}, Inv X (pins ++ pinsAt fp s5.heap) σ7 H7 s7 → N σ7 H7 → ∃ m, m < n ∧ ∃ i σ' H', Inv X pins σ' H' s7 ∧ tn i s7.heap ∧ (∀ b ∈ fp, H' b = none) ∧ W i m σ' H' := fun {σ7 H7} I7 n7 => by
      obtain ⟨m', hm, w7⟩ := hN σ7 H7 n7
      refine ⟨m', hm, i + 1, σ7, H7, I7.unpinned, T.keep _ _ _ st5 fun b hb o e => (I7.pin (b, o) (List.mem_append_right _ (List.mem_append_right _ (mem_pinsAt hb e)))).1, fun b hb => ?_, w7⟩
      obtain ⟨o, e, d⟩ := T.obj _ _ st5 b hb
      exact (I7.pin (b, o) (List.mem_append_right _ (List.mem_append_right _ (mem_pinsAt hb e)))).2.1
    cases f with
    | next => obtain ⟨σ7, H7, I7, n7⟩ := q7; exact again I7 n7
    | cont => obtain ⟨σ7, H7, I7, n7⟩ := q7; exact again I7 n7
    | brk => obtain ⟨σ7, H7, I7, q7⟩ := q7; exact ⟨σ7, H7, I7.unpinned, q7⟩
    | ret v => obtain ⟨x7, σ7, H7, I7, r7, q7⟩ := q7; exact ⟨x7, σ7, H7, I7.unpinned, r7, q7⟩
end

theorem for_list {K : PySem.W.Frag} {a : Addr} {xs : List V} {g : TG} {tb : TS} {D : Ends} {σ : St} {H : Hp} (Pv : Nat → St → Hp → Prop) (h0 : Pv 0 σ H) (hl : ∀ i σ H, i ≤ xs.length → Pv i σ H → SqL K H a xs)
    (hs : ∀ i x σ H, xs[i]? = some x → Pv i σ H → g x σ H fun σ2 H2 => tb { D with nx := Pv (i + 1), ct := Pv (i + 1), bk := D.nx } σ2 H2) (hd : ∀ σ H, Pv xs.length σ H → D.nx σ H) :
    ∃ W : Nat → Nat → St → Hp → Prop, (∃ m, W 0 m σ H) ∧ ∀ i m σ H, W i m σ H →
      ((Itl K a).stop i H ∧ D.nx σ H) ∨ ((Itl K a).go i H ∧ ∃ N : St → Hp → Prop, (∀ σ' H', N σ' H' → ∃ m', m' < m ∧ W (i + 1) m' σ' H') ∧ ∀ x H', (Itl K a).yld i H x H' → g x σ H' fun σ2 H2 => tb { D with nx := N, ct := N, bk := D.nx } σ2 H2) := by
  refine ⟨fun i m σ H => m = xs.length - i ∧ i ≤ xs.length ∧ Pv i σ H, ⟨xs.length, by simp, Nat.zero_le _, h0⟩, ?_⟩
  rintro i m σ H ⟨rfl, hi, p⟩
  have q := hl i σ H hi p
  by_cases hlt : i < xs.length
  · refine .inr ⟨⟨xs, xs[i], q, by simp [hlt]⟩, Pv (i + 1), fun σ' H' p' => ⟨xs.length - (i + 1), by omega, rfl, hlt, p'⟩, fun x H' y => ?_⟩
    obtain ⟨e, y⟩ := y
    subst e
    exact hs i x σ _ (y xs q) p
  · have e : i = xs.length := by omega
    subst e
    exact .inl ⟨⟨xs, q, Nat.le_refl _⟩, hd σ H p⟩
theorem for_range {lo : Int} {n : Nat} {g : TG} {tb : TS} {D : Ends} {σ : St} {H : Hp} (Pv : Nat → St → Hp → Prop) (h0 : Pv 0 σ H)
    (hs : ∀ i σ H, i < n → Pv i σ H → g (.int (lo + i)) σ H fun σ2 H2 => tb { D with nx := Pv (i + 1), ct := Pv (i + 1), bk := D.nx } σ2 H2) (hd : ∀ σ H, Pv n σ H → D.nx σ H) :
    ∃ W : Nat → Nat → St → Hp → Prop, (∃ m, W 0 m σ H) ∧ ∀ i m σ H, W i m σ H →
      ((Itr lo n).stop i H ∧ D.nx σ H) ∨ ((Itr lo n).go i H ∧ ∃ N : St → Hp → Prop, (∀ σ' H', N σ' H' → ∃ m', m' < m ∧ W (i + 1) m' σ' H') ∧ ∀ x H', (Itr lo n).yld i H x H' → g x σ H' fun σ2 H2 => tb { D with nx := N, ct := N, bk := D.nx } σ2 H2) := by
  refine ⟨fun i m σ H => m = n - i ∧ i ≤ n ∧ Pv i σ H, ⟨n, by simp, Nat.zero_le _, h0⟩, ?_⟩
  rintro i m σ H ⟨rfl, hi, p⟩
  by_cases hlt : i < n
  · refine .inr ⟨hlt, Pv (i + 1), fun σ' H' p' => ⟨n - (i + 1), by omega, rfl, hlt, p'⟩, fun x H' y => ?_⟩
    obtain ⟨e, y⟩ := y
    subst e y
    exact hs i σ _ hlt p
  · have e : i = n := by omega
    subst e
    exact .inl ⟨Nat.le_refl _, hd σ H p⟩
end L2

namespace L2
open PySem PySem.Spec PyProof.Rows

abbrev R2 := V → V → Hp → VK → Prop
noncomputable def OpR (X : Cx) (f : Value → Value → Sem Value) (r : R2) : Prop :=
  ∀ (pins : List (Addr × Obj)) (s : Shared) (σ : St) (H : Hp) (x y : V) (v u : Value) (Q : VK), Inv X pins σ H s → RelV x v → RelV y u → r x y H Q →
    wpAny (model X.prog X.w) X.A (f v u) (EP X pins σ Q) X.xe s
noncomputable def UnR (X : Cx) (f : Value → Sem Value) (r : V → Hp → VK → Prop) : Prop :=
  ∀ (pins : List (Addr × Obj)) (s : Shared) (σ : St) (H : Hp) (x : V) (v : Value) (Q : VK), Inv X pins σ H s → RelV x v → r x H Q →
    wpAny (model X.prog X.w) X.A (f v) (EP X pins σ Q) X.xe s
noncomputable def CallR (X : Cx) (f : Value) (r : List V → Hp → VK → Prop) : Prop :=
  ∀ (pins : List (Addr × Obj)) (s : Shared) (σ : St) (H : Hp) (xs : List V) (us : List Value) (Q : VK), Inv X pins σ H s → Vals xs us → r xs H Q →
    wpAny (model X.prog X.w) X.A (call f us) (EP X pins σ Q) X.xe s

noncomputable def tOp (r : R2) (ta tb : TE) : TE := fun σ H Q => ta σ H fun x H1 => tb σ H1 fun y H2 => r x y H2 Q
noncomputable def tUn (r : V → Hp → VK → Prop) (ta : TE) : TE := fun σ H Q => ta σ H fun x H1 => r x H1 Q
noncomputable def rI (C : Int → Int → Prop) (g : Int → Int → V) : R2 := fun x y H Q => ∃ i j, x = .int i ∧ y = .int j ∧ C i j ∧ Q (g i j) H
noncomputable def rI0 (g : Int → Int → V) : R2 := fun x y H Q => ∃ i j, x = .int i ∧ y = .int j ∧ Q (g i j) H
noncomputable def rU (g : Int → V) : V → Hp → VK → Prop := fun x H Q => ∃ i, x = .int i ∧ Q (g i) H

section
variable {X : Cx} {a b c : Expr} {ta tb tc : TE} {pos : Pos}

theorem binT (ha : PE X a ta) (hb : PE X b tb) {pins : List (Addr × Obj)} {s : Shared} {σ : St} {H : Hp} {R : V → V → Hp → Prop} (I : Inv X pins σ H s)
    (h : ta σ H fun x H1 => tb σ H1 fun y H2 => R x y H2) {Q : Value → Shared → Prop} {f : Value → Value → Sem Value}
    (hf : ∀ v u s2 x y H2, Inv X pins σ H2 s2 → RelV x v → RelV y u → R x y H2 → wpAny (model X.prog X.w) X.A (f v u) Q X.xe s2) :
    wpAny (model X.prog X.w) X.A (eval a X.env) (fun v s₁ => wpAny (model X.prog X.w) X.A (eval b X.env) (fun u s₂ => wpAny (model X.prog X.w) X.A (f v u) Q X.xe s₂) X.xe s₁) X.xe s := by
  refine thn (ha pins s σ H _ I h) fun v s1 ⟨x, H1, I1, r1, q1⟩ => ?_
  refine thn (hb pins s1 σ H1 _ I1 q1) fun u s2 ⟨y, H2, I2, r2, q2⟩ => ?_
  exact hf v u s2 x y H2 I2 r1 r2 q2

theorem pe_op {op : Operator} {r : R2} (ho : OpR X (binaryOp op) r) (ha : PE X a ta) (hb : PE X b tb) : PE X (.BinOp a op b pos) (tOp r ta tb) := by
  intro pins s σ H Q I h
  exact wpAny_BinOp (binT ha hb I h fun v u s2 x y H2 I2 rx ry q => ho pins s2 σ H2 x y v u Q I2 rx ry q)
theorem pe_un {op : UnaryOp} {r : V → Hp → VK → Prop} (ho : UnR X (unaryOp op) r) (ha : PE X a ta) : PE X (.UnaryOp op a pos) (tUn r ta) := by
  intro pins s σ H Q I h
  exact UnaryOp_ (thn (ha pins s σ H _ I h) fun v s1 ⟨x, H1, I1, r1, q1⟩ => ho pins s1 σ H1 x v Q I1 r1 q1)

theorem opI {f : Value → Value → Sem Value} {C : Int → Int → Prop} {g : Int → Int → Int}
    (rule : ∀ (i j : Int) (t u : Tok) (s : Shared) (Q : Value → Shared → Prop) (E : Value → Shared → Prop), C i j → Q (.int (g i j) s.toks) { s with toks := s.toks + 1 } → wpAny (model X.prog X.w) X.A (f (.int i t) (.int j u)) Q E s) :
    OpR X f (rI C fun i j => .int (g i j)) := by
  intro pins s σ H x y v u Q I rx ry h
  obtain ⟨i, j, rfl, rfl, hc, q⟩ := h
  obtain ⟨t, rfl⟩ := rx
  obtain ⟨t', rfl⟩ := ry
  exact rule i j t t' s _ _ hc ⟨.int (g i j), H, I.tok _, ⟨_, rfl⟩, q⟩
theorem opI0 {f : Value → Value → Sem Value} {g : Int → Int → Int}
    (rule : ∀ (i j : Int) (t u : Tok) (s : Shared) (Q : Value → Shared → Prop) (E : Value → Shared → Prop), Q (.int (g i j) s.toks) { s with toks := s.toks + 1 } → wpAny (model X.prog X.w) X.A (f (.int i t) (.int j u)) Q E s) :
    OpR X f (rI0 fun i j => .int (g i j)) := by
  intro pins s σ H x y v u Q I rx ry h
  obtain ⟨i, j, rfl, rfl, q⟩ := h
  obtain ⟨t, rfl⟩ := rx
  obtain ⟨t', rfl⟩ := ry
  exact rule i j t t' s _ _ ⟨.int (g i j), H, I.tok _, ⟨_, rfl⟩, q⟩
theorem opB0 {f : Value → Value → Sem Value} {g : Int → Int → Bool}
    (rule : ∀ (i j : Int) (t u : Tok) (s : Shared) (Q : Value → Shared → Prop) (E : Value → Shared → Prop), Q (.bool (g i j)) s → wpAny (model X.prog X.w) X.A (f (.int i t) (.int j u)) Q E s) :
    OpR X f (rI0 fun i j => .bl (g i j)) := by
  intro pins s σ H x y v u Q I rx ry h
  obtain ⟨i, j, rfl, rfl, q⟩ := h
  obtain ⟨t, rfl⟩ := rx
  obtain ⟨t', rfl⟩ := ry
  exact rule i j t t' s _ _ ⟨.bl (g i j), H, I, rfl, q⟩

noncomputable def CDiv (i j : Int) : Prop := 0 < j ∧ j < 1073741824
noncomputable def CPow (i j : Int) : Prop := 0 ≤ j ∧ j ≤ 1000000 ∧ i.natAbs < 2 ^ 64
noncomputable def CMul (i j : Int) : Prop := (-(2 ^ 64) < i ∧ i < 2 ^ 64) ∨ (-(2 ^ 64) < j ∧ j < 2 ^ 64)
theorem CMul.ok {i j : Int} (h : CMul i j) : IntMulOk i j := by
  rcases h with ⟨h1, h2⟩ | ⟨h1, h2⟩
  · exact .of_left (intBits_le_64 h1 h2)
  · exact .of_right (intBits_le_64 h1 h2)

theorem op_add : OpR X (binaryOp .Add) (rI0 fun i j => .int (i + j)) := opI0 fun _ _ _ _ _ _ _ q => add_int q
theorem op_sub : OpR X (binaryOp .Sub) (rI0 fun i j => .int (i - j)) := opI0 fun _ _ _ _ _ _ _ q => sub_int q
theorem op_mul : OpR X (binaryOp .Mult) (rI CMul fun i j => .int (i * j)) := opI fun _ _ _ _ _ _ _ hc q => mul_int q hc.ok
theorem op_fdiv : OpR X (binaryOp .FloorDiv) (rI CDiv fun i j => .int (i / j)) := opI fun i j _ _ _ _ _ hc q => by
  have h1 : (0 : Int) < j := hc.1
  have h2 : j < 1073741824 := hc.2
  exact floordiv_int (by omega) (by rw [Int.fdiv_eq_ediv_of_nonneg i (by omega)]; exact q) (.inl (PyProof.noPylong_small (by omega)))
theorem op_mod : OpR X (binaryOp .Mod) (rI (fun _ j => 0 < j) fun i j => .int (i % j)) := opI fun i j _ _ _ _ _ hc q => by
  have h1 : (0 : Int) < j := hc
  exact mod_int' (by omega) (by rw [Int.fmod_eq_emod_of_nonneg i (by omega)]; exact q)
theorem op_pow : OpR X (binaryOp .Pow) (rI CPow fun i j => .int (i ^ j.toNat)) := opI fun _ _ _ _ _ _ _ hc q => pow_int_small hc.1 hc.2.1 hc.2.2 q


theorem unI {f : Value → Sem Value} {g : Int → Int}
    (rule : ∀ (i : Int) (t : Tok) (s : Shared) (Q : Value → Shared → Prop) (E : Value → Shared → Prop), Q (.int (g i) s.toks) { s with toks := s.toks + 1 } → wpAny (model X.prog X.w) X.A (f (.int i t)) Q E s) :
    UnR X f (rU fun i => .int (g i)) := by
  intro pins s σ H x v Q I rx h
  obtain ⟨i, rfl, q⟩ := h
  obtain ⟨t, rfl⟩ := rx
  exact rule i t s _ _ ⟨.int (g i), H, I.tok _, ⟨_, rfl⟩, q⟩
theorem un_neg : UnR X (unaryOp .USub) (rU fun i => .int (-i)) := unI fun _ _ _ _ _ q => neg_int q

end

noncomputable def scal : V → V → Bool
  | .non, .non => true | .non, .int _ => true | .int _, .non => true | .non, .bl _ => true | .bl _, .non => true | .non, .str _ => true | .str _, .non => true
  | .int _, .int _ => true | .bl _, .bl _ => true | .str _, .str _ => true | .byt _, .byt _ => true
  | .int _, .str _ => true | .str _, .int _ => true | .bl _, .str _ => true | .str _, .bl _ => true
  | _, _ => false
noncomputable def rEq : R2 := fun x y H Q => scal x y = true ∧ Q (.bl (decide (x = y))) H
noncomputable def rNe : R2 := fun x y H Q => scal x y = true ∧ Q (.bl (!decide (x = y))) H

theorem dec_int {i j : Int} : decide (V.int i = V.int j) = (i == j) := by
  rw [Bool.eq_iff_iff]
  simp
theorem dec_bl {i j : Bool} : decide (V.bl i = V.bl j) = (i == j) := by
  rw [Bool.eq_iff_iff]
  simp
theorem dec_str {i j : Str} : decide (V.str i = V.str j) = (i == j) := by
  rw [Bool.eq_iff_iff]
  simp
theorem dec_byt {i j : Array UInt8} : decide (V.byt i = V.byt j) = (i.toList == j.toList) := by
  rw [Bool.eq_iff_iff]
  cases i
  cases j
  simp

section
variable {X : Cx} {a b c : Expr} {ta tb tc : TE} {pos : Pos}
theorem fin_bl {pins : List (Addr × Obj)} {σ : St} {H : Hp} {s : Shared} {Q : VK} {k k' : Bool} (I : Inv X pins σ H s) (q : Q (.bl k) H) (e : k = k') : EP X pins σ Q (.bool k') s := by
  subst e
  exact ⟨.bl k, H, I, rfl, q⟩
theorem op_eq : OpR X (compareOp .Eq) rEq := by
  intro pins s σ H x y v u Q I rx ry h
  obtain ⟨hs, q⟩ := h
  cases x with
  | non =>
    cases rx
    cases y with
    | non => cases ry; exact PySem.EqNone.eq_none_none (fin_bl I q (by simp))
    | bl j => cases ry; exact PySem.EqNone.eq_none_bool (fin_bl I q (by simp))
    | int j => obtain ⟨t', rfl⟩ := ry; exact PySem.EqNone.eq_none_int (fin_bl I q (by simp))
    | str j => obtain ⟨t', rfl⟩ := ry; exact PySem.EqNone.eq_none_str (fin_bl I q (by simp))
    | _ => exact absurd (show false = true from hs) Bool.false_ne_true
  | bl i =>
    cases rx
    cases y with
    | non => cases ry; exact PySem.EqNone.eq_bool_none (fin_bl I q (by simp))
    | bl j => cases ry; exact eq_bool (fin_bl I q dec_bl)
    | str j => obtain ⟨t', rfl⟩ := ry; exact PySem.EqMixed.eq_bool_str (fin_bl I q (by simp))
    | _ => exact absurd (show false = true from hs) Bool.false_ne_true
  | int i =>
    obtain ⟨t, rfl⟩ := rx
    cases y with
    | non => cases ry; exact PySem.EqNone.eq_int_none (fin_bl I q (by simp))
    | int j => obtain ⟨t', rfl⟩ := ry; exact eq_int (fin_bl I q dec_int)
    | str j => obtain ⟨t', rfl⟩ := ry; exact PySem.EqMixed.eq_int_str (fin_bl I q (by simp))
    | _ => exact absurd (show false = true from hs) Bool.false_ne_true
  | str i =>
    obtain ⟨t, rfl⟩ := rx
    cases y with
    | non => cases ry; exact PySem.EqNone.eq_str_none (fin_bl I q (by simp))
    | bl j => cases ry; exact PySem.EqMixed.eq_str_bool (fin_bl I q (by simp))
    | int j => obtain ⟨t', rfl⟩ := ry; exact PySem.EqMixed.eq_str_int (fin_bl I q (by simp))
    | str j => obtain ⟨t', rfl⟩ := ry; exact eq_str (fin_bl I q dec_str)
    | _ => exact absurd (show false = true from hs) Bool.false_ne_true
  | byt i =>
    obtain ⟨t, rfl⟩ := rx
    cases y with
    | byt j => obtain ⟨t', rfl⟩ := ry; exact PySem.W.eq_bytes (fin_bl I q dec_byt)
    | _ => exact absurd (show false = true from hs) Bool.false_ne_true
  | _ => cases y <;> exact absurd (show false = true from hs) Bool.false_ne_true
theorem op_ne : OpR X (compareOp .NotEq) rNe := by
  intro pins s σ H x y v u Q I rx ry h
  obtain ⟨hs, q⟩ := h
  cases x with
  | non =>
    cases rx
    cases y with
    | non => cases ry; exact PySem.EqNone.ne_none_none (fin_bl I q (by simp))
    | bl j => cases ry; exact PySem.EqNone.ne_none_bool (fin_bl I q (by simp))
    | int j => obtain ⟨t', rfl⟩ := ry; exact PySem.EqNone.ne_none_int (fin_bl I q (by simp))
    | str j => obtain ⟨t', rfl⟩ := ry; exact PySem.EqNone.ne_none_str (fin_bl I q (by simp))
    | _ => exact absurd (show false = true from hs) Bool.false_ne_true
  | bl i =>
    cases rx
    cases y with
    | non => cases ry; exact PySem.EqNone.ne_bool_none (fin_bl I q (by simp))
    | bl j => cases ry; exact ne_bool (fin_bl I q (congrArg not dec_bl))
    | str j => obtain ⟨t', rfl⟩ := ry; exact PySem.EqMixed.ne_bool_str (fin_bl I q (by simp))
    | _ => exact absurd (show false = true from hs) Bool.false_ne_true
  | int i =>
    obtain ⟨t, rfl⟩ := rx
    cases y with
    | non => cases ry; exact PySem.EqNone.ne_int_none (fin_bl I q (by simp))
    | int j => obtain ⟨t', rfl⟩ := ry; exact ne_int (fin_bl I q (congrArg not dec_int))
    | str j => obtain ⟨t', rfl⟩ := ry; exact PySem.EqMixed.ne_int_str (fin_bl I q (by simp))
    | _ => exact absurd (show false = true from hs) Bool.false_ne_true
  | str i =>
    obtain ⟨t, rfl⟩ := rx
    cases y with
    | non => cases ry; exact PySem.EqNone.ne_str_none (fin_bl I q (by simp))
    | bl j => cases ry; exact PySem.EqMixed.ne_str_bool (fin_bl I q (by simp))
    | int j => obtain ⟨t', rfl⟩ := ry; exact PySem.EqMixed.ne_str_int (fin_bl I q (by simp))
    | str j => obtain ⟨t', rfl⟩ := ry; exact ne_str (fin_bl I q (congrArg not dec_str))
    | _ => exact absurd (show false = true from hs) Bool.false_ne_true
  | byt i =>
    obtain ⟨t, rfl⟩ := rx
    cases y with
    | byt j => obtain ⟨t', rfl⟩ := ry; exact PySem.W.ne_bytes (fin_bl I q (congrArg not dec_byt))
    | _ => exact absurd (show false = true from hs) Bool.false_ne_true
  | _ => cases y <;> exact absurd (show false = true from hs) Bool.false_ne_true

theorem op_lt : OpR X (compareOp .Lt) (rI0 fun i j => .bl (decide (i < j))) := opB0 fun _ _ _ _ _ _ _ q => lt_int q
theorem op_le : OpR X (compareOp .LtE) (rI0 fun i j => .bl (decide (i ≤ j))) := opB0 fun _ _ _ _ _ _ _ q => le_int q
theorem op_gt : OpR X (compareOp .Gt) (rI0 fun i j => .bl (decide (j < i))) := opB0 fun _ _ _ _ _ _ _ q => gt_int q
theorem op_ge : OpR X (compareOp .GtE) (rI0 fun i j => .bl (decide (j ≤ i))) := opB0 fun _ _ _ _ _ _ _ q => ge_int q
theorem op_in_str : OpR X (compareOp .In) (fun x y H Q => ∃ i j, x = .str i ∧ y = .str j ∧ Q (.bl (!(Builtin.Str.occurrences j i 0 j.length 1).isEmpty)) H) := by
  intro pins s σ H x y v u Q I rx ry h
  obtain ⟨i, j, rfl, rfl, q⟩ := h
  obtain ⟨t, rfl⟩ := rx
  obtain ⟨t', rfl⟩ := ry
  exact in_str (fin_bl I q rfl)

theorem op_isN : OpR X (compareOp .Is) (fun x y H Q => y = .non ∧ Q (.bl (decide (x = .non))) H) := by
  intro pins s σ H x y v u Q I rx ry h
  obtain ⟨rfl, q⟩ := h
  cases ry
  refine is_none_gen (fin_bl I q ?_)
  cases x <;> first
    | (cases rx; rfl)
    | (obtain ⟨t, rfl⟩ := rx; rfl)



theorem nomark (b : Expr) {op : CmpOp} (h : op ≠ .In := by decide) (h2 : op ≠ .NotIn := by decide) : behindInMarks op b = false := by
  have e1 : (op == CmpOp.In) = false := by cases op <;> first | rfl | exact absurd rfl h
  have e2 : (op == CmpOp.NotIn) = false := by cases op <;> first | rfl | exact absurd rfl h2
  cases b <;> simp [behindInMarks, e1, e2]
theorem pe_cmpR {op : CmpOp} {r : R2} (ho : OpR X (compareOp op) r) (ha : PE X a ta) (hb : PE X b tb) (hm : behindInMarks op b = false) : PE X (.Compare a [op] [b] pos) (tOp r ta tb) := by
  intro pins s σ H Q I h
  exact wpAny_Compare1 (binT ha hb I h fun v u s2 x y H2 I2 rx ry q => ho pins s2 σ H2 x y v u Q I2 rx ry q) hm
noncomputable def tTest (t : TE) : TT := fun σ H Q => t σ H fun x H' => ∃ k, x = .bl k ∧ Q k H'
theorem pt_cmpR {op : CmpOp} {r : R2} (ho : OpR X (compareOp op) r) (ha : PE X a ta) (hb : PE X b tb) (hm : behindInMarks op b = false) : PT X (.Compare a [op] [b] pos) (tTest (tOp r ta tb)) := by
  intro pins s σ H Q I h
  refine wpAny_isTrue_Compare1 (thn (ha pins s σ H _ I h) fun v s1 ⟨x, H1, I1, r1, q1⟩ => thn (hb pins s1 σ H1 _ I1 q1) fun u s2 ⟨y, H2, I2, r2, q2⟩ =>
    thn (ho pins s2 σ H2 x y v u _ I2 r1 r2 q2) fun c s3 ⟨z, H3, I3, r3, k, e, q3⟩ => ?_) hm
  subst e
  cases r3
  exact wpAny_truthy_bool ⟨H3, I3, q3⟩
noncomputable def tChain (r r' : R2) (ta tb tc : TE) : TE := fun σ H Q => ta σ H fun x H1 => tb σ H1 fun y H2 => r x y H2 fun z H3 => ∃ k, z = .bl k ∧
  (if k = true then tc σ H3 fun w' H4 => r' y w' H4 Q else Q (.bl false) H3)
theorem pt_chain {op op' : CmpOp} {r r' : R2} (ho : OpR X (compareOp op) r) (ho' : OpR X (compareOp op') r') (ha : PE X a ta) (hb : PE X b tb) (hc : PE X c tc)
    (hm : lastMarks [op, op'] [b, c] = false := by with_unfolding_all rfl) : PT X (.Compare a [op, op'] [b, c] pos) (tTest (tChain r r' ta tb tc)) := by
  intro pins s σ H Q I h
  refine isTrue_chain (thn (ha pins s σ H _ I h) fun v s1 ⟨x, H1, I1, r1, q1⟩ => test_link (thn (hb pins s1 σ H1 _ I1 q1) fun u s2 ⟨y, H2, I2, r2, q2⟩ =>
    thn (ho pins s2 σ H2 x y v u _ I2 r1 r2 q2) fun d s3 ⟨z, H3, I3, r3, k, e, q3⟩ => ?_)) hm
  subst e
  cases r3
  refine wpAny_truthy_bool ?_
  cases k with
  | false =>
    obtain ⟨k', e', q'⟩ := q3
    cases e'
    exact ite_ff ⟨H3, I3, q'⟩
  | true =>
    refine ite_tt (test_last (thn (hc pins s3 σ H3 _ I3 q3) fun w' s4 ⟨z', H4, I4, r4, q4⟩ => thn (ho' pins s4 σ H4 y z' u w' _ I4 r2 r4 q4) fun d' s5 ⟨z2, H5, I5, r5, k2, e2, q5⟩ => ?_))
    subst e2
    cases r5
    exact wpAny_truthy_bool ⟨H5, I5, q5⟩

theorem line63 : (sizeLine : Nat) < 2 ^ 63 := by rw [sizeLine_eq]; decide

theorem op_add_str : OpR X (binaryOp .Add) (fun x y H Q => ∃ i j, x = .str i ∧ y = .str j ∧ i.length + j.length ≤ sizeLine ∧ Q (.str (i ++ j)) H) := by
  intro pins s σ H x y v u Q I rx ry h
  obtain ⟨i, j, rfl, rfl, hz, q⟩ := h
  obtain ⟨t, rfl⟩ := rx
  obtain ⟨t', rfl⟩ := ry
  exact add_str (fun t' tk => ⟨.str (i ++ j), H, I.tok _, ⟨_, rfl⟩, q⟩) hz


theorem vals1 {x : V} {us : List Value} (r : Vals [x] us) : ∃ u, us = [u] ∧ RelV x u := by
  cases r with
  | cons r1 r2 => cases r2; exact ⟨_, rfl, r1⟩
theorem vals2 {x y : V} {us : List Value} (r : Vals [x, y] us) : ∃ u w', us = [u, w'] ∧ RelV x u ∧ RelV y w' := by
  cases r with
  | cons r1 r2 =>
    cases r2 with
    | cons r3 r4 => cases r4; exact ⟨_, _, rfl, r1, r3⟩
theorem call_max2 (hc : X.calm = true) : CallR X (.builtin "max") (fun xs H Q => ∃ i j, xs = [.int i, .int j] ∧ Q (.int (if j > i then j else i)) H) := by
  intro pins s σ H xs us Q I r h
  obtain ⟨i, j, rfl, q⟩ := h
  obtain ⟨u, w', rfl, ⟨t, rfl⟩, ⟨t', rfl⟩⟩ := vals2 r
  refine max_two_ints (I.ok.hd hc) fun h' tk k => ⟨_, H, I.kept k, ?_, q⟩
  by_cases hj : j > i
  · rw [if_pos hj, if_pos hj]; exact ⟨_, rfl⟩
  · rw [if_neg hj, if_neg hj]; exact ⟨_, rfl⟩
theorem call_min2 (hc : X.calm = true) : CallR X (.builtin "min") (fun xs H Q => ∃ i j, xs = [.int i, .int j] ∧ Q (.int (if j < i then j else i)) H) := by
  intro pins s σ H xs us Q I r h
  obtain ⟨i, j, rfl, q⟩ := h
  obtain ⟨u, w', rfl, ⟨t, rfl⟩, ⟨t', rfl⟩⟩ := vals2 r
  refine min_two_ints (I.ok.hd hc) fun h' tk k => ⟨_, H, I.kept k, ?_, q⟩
  by_cases hj : j < i
  · rw [if_pos hj, if_pos hj]; exact ⟨_, rfl⟩
  · rw [if_neg hj, if_neg hj]; exact ⟨_, rfl⟩
theorem call_int1 : CallR X (.type "int") (fun xs H Q => (∃ i, xs = [.int i] ∧ Q (.int i) H) ∨ ∃ k, xs = [.bl k] ∧ Q (.int (if k then 1 else 0)) H) := by
  intro pins s σ H xs us Q I r h
  rcases h with ⟨i, rfl, q⟩ | ⟨k, rfl, q⟩
  · obtain ⟨u, rfl, t, rfl⟩ := vals1 r
    exact call_int_int ⟨.int i, H, I, ⟨_, rfl⟩, q⟩
  · obtain ⟨u, rfl, r1⟩ := vals1 r
    cases r1
    exact call_int_bool ⟨.int (if k then 1 else 0), H, I.tok _, ⟨_, rfl⟩, q⟩
end
end L2

namespace L2
open PySem PySem.Spec PyProof.Rows

structure ObjM (h : Heap) (x dx C : Addr) (mA : Str → Option Value) : Prop where
  obj : h.get? x = some (PySem.W.instObj C dx)
  ns : h.Ns1 dx mA
  ne : dx ≠ x

theorem lookIn_ns {h : Heap} {dx : Addr} {mA : Str → Option Value} (n : h.Ns1 dx mA) : ∃ od, h.get? dx = some od ∧ ∀ name, PySem.W.lookIn name od = some (mA name) := by
  obtain ⟨o, es, ep, ho, hd, hk, _, hm⟩ := n
  refine ⟨o, ho, fun name => ?_⟩
  have e := hm name
  unfold nsFind findBy at e
  rw [← Array.find?_toList] at e
  unfold PySem.W.lookIn
  rw [hd]
  dsimp only
  split
  · rename_i y q
    rw [q] at e
    exact congrArg some e
  · rename_i q
    rw [q] at e
    have a : es.toList.any (·.refKey) = false := by
      rw [List.any_eq_false]
      intro y hy
      obtain ⟨z, t, hkey⟩ := hk y (Array.mem_toList_iff.mp hy)
      simp [DictEntry.refKey, hkey]
    have a' : ¬ es.toList.any (·.refKey) = true := by rw [a]; exact Bool.false_ne_true
    rw [if_neg a']
    exact congrArg some e

theorem ObjM.look {h : Heap} {x dx C : Addr} {mA : Str → Option Value} (I : ObjM h x dx C mA) : ∃ od, PySem.W.InstAt h x (PySem.W.instObj C dx) C (some od) ∧ ∀ name, PySem.W.lookIn name od = some (mA name) :=
  let ⟨od, ho, hl⟩ := lookIn_ns I.ns
  ⟨od, ⟨I.obj, rfl, rfl, ho⟩, hl⟩

section
variable {prog : Program} {w : World} {A : Around} {E : Value → Shared → Prop} {s : Shared} {K : PySem.W.Frag} {x dx C f : Addr} {mA : Str → Option Value} {name : Str} {v : Value}





end


theorem RelO.some_of {v : V} {o : Option Value} (r : RelO (some v) o) : ∃ u, o = some u ∧ RelV v u := by
  cases o with
  | none => exact (show False from r).elim
  | some u => exact ⟨u, rfl, r⟩

section
variable {P : Program} {w : World} {H H' : Hp} {h h' : Heap} {a C dx : Addr} {fs fs' : List (Str × V)}
theorem ins_get (hok : HOk P w H h) (e : H a = some (.ins C dx fs)) : ∃ mA, ObjM h a dx C mA ∧ (∀ f, RelO (fs.lookup f) (mA f)) ∧ PySem.Within mA (fs.map (·.1)) ∧ fs.length ≤ 1000 ∧ H dx = some (.own a) := by
  obtain ⟨d, z, ne, ob, mA, n, r, q⟩ := (show ObjOk P w H h a (.ins C dx fs) from hok a _ e)
  exact ⟨mA, ⟨ob, n, ne⟩, r, q, z, d⟩
end

structure Cls (K : PySem.W.Frag) (C : Addr) : Prop where
  pg : PySem.W.plainGet K C Str.empty = true
  hd : PySem.W.hasDictIn K C = true
  po : PySem.W.plainOver K C = true
  sa : PySem.W.findIn K (.ref C) "__setattr__" = some (some (.builtin "object.__setattr__"))
theorem Cls.get {K : PySem.W.Frag} {C : Addr} (c : Cls K C) (f : Str) : PySem.W.plainGet K C f = true := c.pg
structure Con (K : PySem.W.Frag) (C : Addr) (f : Str) (v : V) (u : Value) : Prop where
  at_ : PySem.W.findIn K (.ref C) f = some (some u)
  rel : RelV v u
  get : PySem.W.specialIn K u "__get__" = some none
  cp : PySem.W.copiedNames.contains f = false
structure Meth (K : PySem.W.Frag) (C : Addr) (m : Str) (f : Addr) : Prop where
  at_ : PySem.W.findIn K (.ref C) m = some (some (.ref f))
  fn : PySem.W.isFn K (.ref f) = true
  kp : PySem.W.keepIn K (.ref f) = true

section
variable {X : Cx} {pins : List (Addr × Obj)} {σ : St} {H : Hp} {s : Shared} {a C dx : Addr} {fs : List (Str × V)} {f : Str} {v : V} {A : Around} {E : Value → Shared → Prop}






end


section
variable {X : Cx} {o e value : Expr} {f : Str} {pos pos' tpos : Pos} {ta tv : TE}

end

section
variable {X : Cx} {pins : List (Addr × Obj)} {σ : St} {H : Hp} {s : Shared} {A : Around} {E : Value → Shared → Prop} {Q : Value → Shared → Prop} {c : Value} {b : Bool}
inductive TyOf (K : PySem.W.Frag) (H : Hp) : V → Value → Prop where
  | non : TyOf K H .non (.type "NoneType")
  | bl (x : Bool) : TyOf K H (.bl x) (.type "bool")
  | int (i : Int) : TyOf K H (.int i) (.type "int")
  | str (x : Str) : TyOf K H (.str x) (.type "str")
  | flt (x : UInt64) : TyOf K H (.flt x) (.type "float")
  | lst {a : Addr} {xs : List V} (e : H a = some (.lst xs)) : TyOf K H (.ref a) (.type "list")
  | frz {a : Addr} {o : Obj} {xs : List V} (e : H a = some (.frz o (.lst xs))) : TyOf K H (.ref a) (.type "list")
  | tup {a : Addr} {xs : List V} (e : H a = some (.tup xs)) : TyOf K H (.ref a) (.type "tuple")
  | dK {a : Addr} {kvs : List (Key × V)} (e : H a = some (.dK kvs)) : TyOf K H (.ref a) (.type "dict")
  | dT {a : Addr} {kvs : List (List Key × V)} (e : H a = some (.dT kvs)) : TyOf K H (.ref a) (.type "dict")
  | ins {a C dx : Addr} {fs : List (Str × V)} (e : H a = some (.ins C dx fs)) (cl : Cls K C) (ha : PySem.W.findIn K (.ref C) "__class__" = some (some (.builtin "object.__class__")))
      (hn : PySem.W.specialIn K (.builtin "object.__class__") "__get__" = some (some (.builtin "getset_descriptor.__get__"))) (htk : PySem.W.takesIn K (.builtin "object.__class__") = some true)
      (hm : PySem.W.mroIn K C (.type "object") = some true) : TyOf K H (.ref a) (.ref C)
theorem isinst_ok {x : V} {u t : Value} (I : Inv X pins σ H s) (rx : RelV x u) (ty : TyOf X.K H x t) (e : PySem.W.kitOne X.K t c = some b) (h : ∀ tk, Q (.bool b) { s with toks := tk }) :
    wpAny (model X.prog X.w) A (call (.builtin "isinstance") [u, c]) Q E s := by
  cases ty with
  | non => cases (show u = Value.none from rx); exact PySem.W.kia_one PySem.W.kitx_none I.kIn True.intro e (fun z => nomatch z) h
  | bl y => cases (show u = Value.bool y from rx); exact PySem.W.kia_one PySem.W.kitx_bool I.kIn True.intro e (fun z => nomatch z) h
  | int i => obtain ⟨t, q⟩ := (show ∃ t, u = Value.int i t from rx); cases q; exact PySem.W.kia_one PySem.W.kitx_int I.kIn True.intro e (fun z => nomatch z) h
  | str y => obtain ⟨t, q⟩ := (show ∃ t, u = Value.str y t from rx); cases q; exact PySem.W.kia_one PySem.W.kitx_str I.kIn True.intro e (fun z => nomatch z) h
  | flt y => obtain ⟨t, q⟩ := (show ∃ t, u = Value.float y t from rx); cases q; exact PySem.W.kia_one PySem.W.kitx_float I.kIn True.intro e (fun z => nomatch z) h
  | @lst a xs ea =>
    cases (show u = Value.ref a from rx)
    obtain ⟨_, _, n, _, h1⟩ := (show ObjOk X.prog X.w H s.heap a (.lst xs) from I.hok a _ ea)
    exact PySem.W.kia_one PySem.W.kitx_list I.kIn ⟨_, h1, rfl⟩ e (fun z => nomatch z) h
  | @frz a ob xs ea =>
    cases (show u = Value.ref a from rx)
    obtain ⟨_, _, _, n, _, h1⟩ := (show ObjOk X.prog X.w H s.heap a (.frz ob (.lst xs)) from I.hok a _ ea)
    exact PySem.W.kia_one PySem.W.kitx_list I.kIn ⟨_, h1, rfl⟩ e (fun z => nomatch z) h
  | @tup a xs ea =>
    cases (show u = Value.ref a from rx)
    obtain ⟨_, _, _, p⟩ := (show ObjOk X.prog X.w H s.heap a (.tup xs) from I.hok a _ ea)
    obtain ⟨o, h1, h2, _⟩ := p
    exact PySem.W.kia_one PySem.W.kitx_tuple I.kIn ⟨o, h1, h2⟩ e (fun z => nomatch z) h
  | @dK a kvs ea =>
    cases (show u = Value.ref a from rx)
    obtain ⟨_, _, vs, _, p⟩ := (show ObjOk X.prog X.w H s.heap a (.dK kvs) from I.hok a _ ea)
    obtain ⟨o, es, ep, h1, h2, _⟩ := p
    exact PySem.W.kia_one PySem.W.kitx_dict I.kIn ⟨o, h1, h2.1⟩ e (fun z => nomatch z) h
  | @dT a kvs ea =>
    cases (show u = Value.ref a from rx)
    obtain ⟨_, _, xs, _, o, es, ep, h1, h2, _⟩ := (show ObjOk X.prog X.w H s.heap a (.dT kvs) from I.hok a _ ea)
    exact PySem.W.kia_one PySem.W.kitx_dict I.kIn ⟨o, h1, h2.1⟩ e (fun z => nomatch z) h
  | @ins a C dx fs ea cl ha hn htk hm =>
    cases (show u = Value.ref a from rx)
    obtain ⟨mA, O, _⟩ := ins_get I.hok ea
    obtain ⟨od, J, _⟩ := O.look
    exact PySem.W.kia_one (PySem.W.kitx_own (cl.get _) cl.hd ha hn htk hm) I.kIn J e (fun z => nomatch z) h
end
end L2

namespace L2
open PySem PySem.Spec PyProof.Rows

structure Room (k : Nat) (A : Around) : Prop where
  hd : A.handled = none
  dp : A.depth + 3 * k + 5 < recursionLimit
  un : A.units + 16 * k + 200 < cLine
theorem Room.mono {j k : Nat} {A : Around} (r : Room k A) (h : j ≤ k) : Room j A := ⟨r.hd, by have := r.dp; omega, by have := r.un; omega⟩
theorem Room.deeper {k : Nat} {A : Around} (r : Room (k + 1) A) (env : Env) : Room k (A.deeper env) :=
  ⟨r.hd, by have := r.dp; show A.depth + 1 + 3 * k + 5 < _; omega, by have := r.un; show A.units + 3 + 16 * k + 200 < _; omega⟩
theorem Room.depth {k : Nat} {A : Around} (r : Room k A) : A.depth < recursionLimit := by have := r.dp; omega
theorem Room.units {k : Nat} {A : Around} (r : Room k A) : A.units + 64 < cLine := by have := r.un; omega

noncomputable def tNil : TA := fun _ H Q => Q [] H
noncomputable def tCons (ta : TE) (tr : TA) : TA := fun σ H Q => ta σ H fun x H1 => tr σ H1 fun xs H2 => Q (x :: xs) H2
section
variable {X : Cx} {e : Expr} {es : List Expr} {te : TE} {t : TA} {pos : Pos}
theorem pa_nil : PA X [] tNil := fun _ _ _ _ H Q I h => Calls.spliced_nil ⟨[], H, I, .nil, h⟩
theorem pa_cons (ha : PE X e te) (hr : PA X es t) (hs : starEach (e :: es) X.env = (false, eval e X.env) :: starEach es X.env := by rfl) : PA X (e :: es) (tCons te t) := by
  intro pos pins s σ H Q I h
  rw [hs]
  show wpAny _ _ (spliced ((false, eval e X.env) :: backTo pos (starEach es X.env))) _ _ s
  refine Calls.spliced_cons (thn (ha pins s σ H _ I h) fun u s1 ⟨x, H1, I1, r1, q1⟩ => ?_)
  exact thn (hr pos pins s1 σ H1 _ I1 q1) fun us s2 ⟨xs, H2, I2, r2, q2⟩ => ⟨x :: xs, H2, I2, .cons r1 r2, q2⟩

noncomputable def tTup (t : TA) : TE := fun σ H Q => t σ H fun xs H1 => xs.length ≤ sizeLine ∧ ∀ p, H1 p = none → Q (.ref p) (upd H1 p (.tup xs))
noncomputable def tLst (t : TA) : TE := fun σ H Q => t σ H fun xs H1 => xs.length ≤ sizeLine ∧ ∀ p, H1 p = none → Q (.ref p) (upd H1 p (.lst xs))
theorem pe_tup {x1} (h : PA X es t) : PE X (.Tuple es x1 pos) (tTup t) := by
  intro pins s σ H Q I hq
  refine wpAny_Tuple_spliced (thn (h pos pins s σ H _ I hq) fun us s1 ⟨xs, H1, I1, r, z, q⟩ => ⟨by rw [← r.length]; exact z, ?_⟩)
  have hf : H1 s1.heap.objs.size = none := I1.hok.fresh (Nat.le_refl _)
  refine ⟨.ref s1.heap.objs.size, upd H1 s1.heap.objs.size (.tup xs), I1.laid (t' := s1.toks) (fun b u e => Heap.get?_push_of_some _ e) (Nat.le_refl _) ?_, rfl, q _ hf⟩
  exact ⟨z, us, r, ⟨_, Heap.get?_push_size _ rfl, rfl, _, rfl⟩⟩
theorem pe_lst (h : PA X es t) : PE X (.List es pos) (tLst t) := by
  intro pins s σ H Q I hq
  refine wpAny_List_spliced (thn (h pos pins s σ H _ I hq) fun us s1 ⟨xs, H1, I1, r, z, q⟩ => ⟨by rw [← r.length]; exact z, ?_⟩)
  have hf : H1 s1.heap.objs.size = none := I1.hok.fresh (Nat.le_refl _)
  refine ⟨.ref s1.heap.objs.size, upd H1 s1.heap.objs.size (.lst xs), I1.laid (t' := s1.toks) (fun b u e => Heap.get?_push_of_some _ e) (Nat.le_refl _) ?_, rfl, q _ hf⟩
  exact ⟨z, us, 0, r, Heap.get?_push_size _ rfl⟩
end

abbrev Sp := List V → Hp → VK → XK → Prop
abbrev CXT := List Env → Hp → Shared → XK → Value → Shared → Prop

structure Env0 (P : Program) (w : World) (K : PySem.W.Frag) (mg : Str → Option Value) (base : Heap) (A : Around) (outer : List Env) (s : Shared) (H : Hp) : Prop where
  frames : A.frames = some outer
  mod : Mod K mg base
  bs : ∀ b o, base.get? b = some o → s.heap.get? b = some o ∧ H b = none
  bsz : base.objs.size ≤ s.heap.objs.size
  funs : s.heap.FunFrames base outer
  frf : ∀ b ∈ frs outer, H b = none
  hok : HOk P w H s.heap
  bare : AllBare s.gens
noncomputable def CE (outer : List Env) (P : Program) (w : World) (H : Hp) (s : Shared) (Q : VK) (u : Value) (s' : Shared) : Prop :=
  ∃ v H', s'.os = s.os ∧ AllBare s'.gens ∧ Un (frs outer) [] H H' s.heap s'.heap ∧ HOk P w H' s'.heap ∧ RelV v u ∧ Q v H'
noncomputable def CR (CX : CXT) (outer : List Env) (P : Program) (w : World) (H : Hp) (s : Shared) (Q : VK) (E : XK) (r : Result) (s' : Shared) : Prop :=
  match r with
  | .ok (.ret u) => CE outer P w H s Q u s'
  | .ok _ => False
  | .error e => CX outer H s E e s'
structure FnOk (P : Program) (w : World) (K : PySem.W.Frag) (mg : Str → Option Value) (base : Heap) (CX : CXT) (k : Nat) (f : Addr) (fd : FuncData) (ps : List Str) (sp : Sp) : Prop where
  len : ∀ vs H Q E, sp vs H Q E → vs.length = ps.length
  run : ∀ (A : Around) (outer : List Env) (s : Shared) (H : Hp) (args : Args) (us : List Value) (vs : List V) (Q : VK) (E : XK), Room k A → Env0 P w K mg base A outer s H → BindsTo s fd args (ps.zip us) → Vals vs us → sp vs H Q E →
    codeAny (model P w) A (.call (.ref f) args) (CR CX outer P w H s Q E) s


section
variable {X : Cx} {pins : List (Addr × Obj)} {σ : St} {H : Hp} {s s' : Shared}
theorem Inv.env0 (I : Inv X pins σ H s) : Env0 X.prog X.w X.K X.mg X.base X.A X.stack s H :=
  ⟨I.ok.frames, I.ok.mod, I.bs, Nat.le_trans I.ok.bsz I.sz, I.stack, I.stkFree, I.hok, I.bare⟩
theorem Inv.after {Q : VK} {u : Value} (I : Inv X pins σ H s) (h : CE X.stack X.prog X.w H s Q u s') : EP X pins σ Q u s' := by
  obtain ⟨v, H', os, bare, un, hok, r, q⟩ := h
  obtain ⟨hh, g, d, t, os'⟩ := s'
  obtain rfl : os' = s.os := os
  exact ⟨v, H', I.call (h' := hh) (g' := g) (d' := d) (t' := t) (ch := []) un hok bare (fun b z => absurd z (by simp)), r, q⟩
end

noncomputable def tCall (sp : Sp) (dvs : List V) (E : XK) (t : TA) : TE := fun σ H Q => t σ H fun vs H1 => sp (vs ++ dvs) H1 Q E

noncomputable def Binds (K : PySem.W.Frag) (fd : FuncData) (ps : List Str) (ds : List Value) : Prop :=
  ∀ (s : Shared) (us : List Value), K.In s.heap → (us ++ ds).length = ps.length → BindsTo s fd ⟨us, []⟩ (ps.zip (us ++ ds))
theorem Binds.all {K : PySem.W.Frag} {fd : FuncData} {ps : List Str} (h : ∀ us : List Value, us.length = ps.length → bindArgs fd ⟨us, []⟩ = pure (ps.zip us)) : Binds K fd ps [] := fun s us _ hl => by
  rw [List.append_nil] at hl ⊢
  exact .of_eq (h us hl)

noncomputable def Passes (CX : CXT) (X : Cx) (E : XK) : Prop := ∀ (pins : List (Addr × Obj)) (σ : St) (H : Hp) (s : Shared) (e : Value) (s' : Shared), Inv X pins σ H s → CX X.stack H s E e s' → X.xe e s'

section
variable {X : Cx} {CX : CXT} {k : Nat} {f C : Addr} {fd : FuncData} {ps : List Str} {sp : Sp} {dvs : List V} {ds : List Value} {E : XK} {x m : Str} {p pos apos : Pos} {e o : Expr} {es : List Expr} {ta : TE} {t : TA}

theorem run_fn {pins : List (Addr × Obj)} {σ : St} {H : Hp} {s : Shared} {Q : VK} {us : List Value} {vs : List V} (F : FnOk X.prog X.w X.K X.mg X.base CX k f fd ps sp) (hr : Room k X.A) (hb : Binds X.K fd ps ds) (hd : Vals dvs ds) (hx : Passes CX X E)
    (I : Inv X pins σ H s) (r : Vals vs us) (h : sp (vs ++ dvs) H Q E) : wpAny (model X.prog X.w) X.A (call (.ref f) us) (EP X pins σ Q) X.xe s := by
  have r2 : Vals (vs ++ dvs) (us ++ ds) := r.append hd
  have hl : (us ++ ds).length = ps.length := by rw [← r2.length]; exact F.len _ _ _ _ h
  refine wpAny_call (codeAny_mono (F.run X.A X.stack s H ⟨us, []⟩ (us ++ ds) (vs ++ dvs) Q E hr I.env0 (hb s us I.kIn hl) r2 h) fun r s' hq => ?_)
  cases r with
  | error e => exact hx pins σ H s e s' I hq
  | ok fl =>
    cases fl with
    | ret u => exact I.after hq
    | next => exact False.elim hq
    | brk => exact False.elim hq
    | cont => exact False.elim hq

theorem pe_call (F : FnOk X.prog X.w X.K X.mg X.base CX k f fd ps sp) (hr : Room k X.A) (hg : Gl X x) (hm : X.mg x = some (.ref f)) (hk : PySem.W.keepIn X.K (.ref f) = true) (hb : Binds X.K fd ps ds) (hd : Vals dvs ds) (hx : Passes CX X E)
    (ha : PA X (e :: es) t) (hdb : (x == ("__debug__" : Str)) = false := by decide) (he : starEach (e :: es) X.env = (false, eval e X.env) :: starEach es X.env := by rfl) (hpl : (backTo pos (starEach es X.env)).any (·.1) = false := by rfl) :
    PE X (.Call (.Name x p) (e :: es) [] pos) (tCall sp dvs E t) := by
  intro pins s σ H Q I h
  refine wpAny_Call_Name_kw (ld_glob I hg hm ?_ hdb)
  refine PySem.W.callWith_K (h₀ := X.base) I.ok.mod.kin hk (thn (ha pos pins s σ H _ I h) fun us s1 ⟨vs, H1, I1, r, q⟩ => ⟨I1.kIn, ?_⟩) he hpl
  exact run_fn F hr hb hd hx I1 r q


structure Mk (K : PySem.W.Frag) (C f : Addr) : Prop where
  makes : PySem.W.makesIn K C = true
  init : PySem.W.findIn K (.ref C) "__init__" = some (some (.ref f))
  fn : PySem.W.isFn K (.ref f) = true
  kp : PySem.W.keepIn K (.ref C) = true

end

section
variable {X : Cx} {CX : CXT} {k : Nat} {f C : Addr} {fd : FuncData} {ps ks : List Str} {sp : Sp} {E : XK} {x m : Str} {p pos apos kpos : Pos} {e o : Expr} {es : List Expr} {kws : List Keyword} {te ta : TE} {t tk : TA} {nm : Option Str}

structure KBinds (K : PySem.W.Frag) (fd : FuncData) (ps ks : List Str) (g : List Value → List Value → List Value) (gV : List V → List V → List V) : Prop where
  to : ∀ (s : Shared) (us ws : List Value), K.In s.heap → (g us ws).length = ps.length → BindsTo s fd ⟨us, ks.zip ws⟩ (ps.zip (g us ws))
  rel : ∀ {vs : List V} {us : List Value} {zs : List V} {ws : List Value}, Vals vs us → Vals zs ws → Vals (gV vs zs) (g us ws)
variable {g : List Value → List Value → List Value} {gV : List V → List V → List V}
end

structure FnScope (N P : List Str) (sc : Scope) : Prop where
  kind : sc.kind = .function
  co : sc.isCoroutine = false
  gen : sc.isGenerator = false
  nd : N.Nodup
  pre : N.take P.length = P
  par : ∀ x ∈ P, sc.names.lookup x = some .local ∨ sc.names.lookup x = some .cell
  nofree : ∀ y ∈ sc.names, y.2 ≠ .free

theorem bindL_out {kindOf : Str → Option NameKind} {x : Str} : ∀ {binds : List (Str × Value)} {m : Str → Option Value}, (∀ v, (x, v) ∉ binds) → bindL kindOf binds m x = m x
  | [], _, _ => rfl
  | (n, v) :: r, m, h => by
    unfold bindL
    rw [bindL_out fun w hw => h w (List.mem_cons_of_mem _ hw)]
    split
    · have : x ≠ n := by rintro rfl; exact h v List.mem_cons_self
      simp [this]
    · rfl
theorem bindC_out {kindOf : Str → Option NameKind} {x : Str} : ∀ {binds : List (Str × Value)} {m : Str → Option Value}, (∀ v, (x, v) ∉ binds) → bindC kindOf binds m x = m x
  | [], _, _ => rfl
  | (n, v) :: r, m, h => by
    unfold bindC
    rw [bindC_out fun w hw => h w (List.mem_cons_of_mem _ hw)]
    split
    · rfl
    · have : x ≠ n := by rintro rfl; exact h v List.mem_cons_self
      simp [this]
theorem bindL_get {kindOf : Str → Option NameKind} {x : Str} {v : Value} : ∀ {P : List Str} {vs : List Value} {i : Nat} {m : Str → Option Value}, P.Nodup → P[i]? = some x → vs[i]? = some v → kindOf x = some .local →
    bindL kindOf (P.zip vs) m x = some v
  | [], _, _, _, _, h, _, _ => by simp at h
  | _ :: _, [], _, _, _, _, h, _ => by simp at h
  | p :: P, w :: vs, 0, m, nd, h1, h2, hk => by
    simp at h1 h2; subst h1; subst h2
    show bindL kindOf ((p, w) :: P.zip vs) m p = _
    unfold bindL
    rw [bindL_out fun v hv => (List.nodup_cons.mp nd).1 (List.of_mem_zip hv).1, if_pos hk]
    simp
  | p :: P, w :: vs, i + 1, m, nd, h1, h2, hk => by
    show bindL kindOf ((p, w) :: P.zip vs) m x = _
    unfold bindL
    exact bindL_get (i := i) (List.nodup_cons.mp nd).2 (by simpa using h1) (by simpa using h2) hk
theorem bindC_get {kindOf : Str → Option NameKind} {x : Str} {v : Value} : ∀ {P : List Str} {vs : List Value} {i : Nat} {m : Str → Option Value}, P.Nodup → P[i]? = some x → vs[i]? = some v → kindOf x ≠ some .local →
    bindC kindOf (P.zip vs) m x = some v
  | [], _, _, _, _, h, _, _ => by simp at h
  | _ :: _, [], _, _, _, _, h, _ => by simp at h
  | p :: P, w :: vs, 0, m, nd, h1, h2, hk => by
    simp at h1 h2; subst h1; subst h2
    show bindC kindOf ((p, w) :: P.zip vs) m p = _
    unfold bindC
    rw [bindC_out fun v hv => (List.nodup_cons.mp nd).1 (List.of_mem_zip hv).1, if_neg hk]
    simp
  | p :: P, w :: vs, i + 1, m, nd, h1, h2, hk => by
    show bindC kindOf ((p, w) :: P.zip vs) m x = _
    unfold bindC
    exact bindC_get (i := i) (List.nodup_cons.mp nd).2 (by simpa using h1) (by simpa using h2) hk

noncomputable def start (N : List Str) (vs : List V) : St := vs.map some ++ List.replicate (N.length - vs.length) none

noncomputable def cxOf (CX : CXT) (P : Program) (w : World) (K : PySem.W.Frag) (mg : Str → Option Value) (base : Heap) (N : List Str) (qual : Str) (scope : Scope) (f : Addr) (cd : Value) (A : Around) (outer : List Env) (s : Shared) (H : Hp) (E : XK) : Cx where
  prog := P
  w := w
  K := K
  mg := mg
  base := base
  A := A.deeper (envOfC qual scope s.heap.objs.size f cd)
  N := N
  s₀ := s
  H₀ := H
  env := envOfC qual scope s.heap.objs.size f cd
  outer := outer
  stack := envOfC qual scope s.heap.objs.size f cd :: outer
  ex := []
  calm := true
  fn := fun _ => true
  pn := []
  xe := fun e s' => wpAny (model P w) (A.deeper (envOfC qual scope s.heap.objs.size f cd)) (leaving (envOfC qual scope s.heap.objs.size f cd) e) (fun _ s'' => CX outer H s E e s'') (fun e' s'' => CX outer H s E e' s'') s'

theorem cell_has {sc : Scope} {n : Nat} {x : Str} (h : sc.names.lookup x = some .cell) : ∃ c, (cellsFrom n sc.names []).lookup x = some c := by
  have q := PySem.W.cellsFrom_some sc.names n [] (.inl h)
  exact Option.isSome_iff_exists.mp q

theorem inv_start {CX : CXT} {P : Program} {w : World} {K : PySem.W.Frag} {mg : Str → Option Value} {base : Heap} {N ps : List Str} {qual : Str} {scope : Scope} {f : Addr} {cd : Value} {A : Around} {outer : List Env} {s s1 : Shared} {H : Hp} {E : XK} {us : List Value} {vs : List V}
    (S : FnScope N ps scope) (hd : A.handled = none) (e0 : Env0 P w K mg base A outer s H) (hl : vs.length = ps.length) (r : Vals vs us)
    (x : InCallC s s.heap.objs.size (bindL (envOfC qual scope s.heap.objs.size f cd).kindOf (ps.zip us) fun _ => none) (cellsFrom (s.heap.objs.size + 1) scope.names []) (bindC (envOfC qual scope s.heap.objs.size f cd).kindOf (ps.zip us) fun _ => none) s1) :
    Inv (cxOf CX P w K mg base N qual scope f cd A outer s H E) [] (start N vs) H s1 := by
  have hpl : ps.length ≤ N.length := by have := congrArg List.length S.pre; rw [List.length_take] at this; omega
  obtain ⟨h1, tk, rfl, hk⟩ := x.done
  have noA : ∀ b : Addr, b ∉ (cxOf CX P w K mg base N qual scope f cd A outer s H E).ex := fun b z => absurd (show b ∈ ([] : List Addr) from z) (by simp)
  refine ⟨⟨e0.mod, S.kind, rfl, rfl, Nat.le_refl _, fun y z c h1 h2 => ?_, fun y hy => ?_, fun y c _ h => ?_, fun _ => hd, Around.frames_deeper e0.frames, .inr ⟨rfl, rfl⟩, fun b z => absurd z (noA b), e0.bs, e0.bsz, fun b _ _ => noA b, fun b z => absurd z (noA b), e0.funs, e0.frf⟩,
    rfl, e0.bare, Un.kept hk, ⟨_, x.toInCall.ns, fun i y v h1 h2 h3 => ?_⟩, fun y c h => ⟨_, x.cell y c h⟩, e0.hok.fresh (Nat.le_refl _), fun y c h => ?_, fun p hp => absurd (show p ∈ ([] : List (Addr × Obj)) from hp) (by simp), e0.hok.kept hk, ?_⟩
  · exact name_of_addr x.apart (PySem.mem_of_lookup h1) (PySem.mem_of_lookup h2)
  · have hy : scope.names.lookup y = some .cell ∨ scope.names.lookup y = some .free := hy
    rcases hy with hy | hy
    · exact cell_has hy
    · exact absurd rfl (S.nofree _ (PySem.mem_of_lookup hy))
  · exact Nat.le_of_lt (x.above y c (PySem.mem_of_lookup h))
  · have hi : i < vs.length := by
      unfold start at h2
      by_cases hi : i < vs.length
      · exact hi
      · rw [List.getElem?_append_right (by simpa using hi)] at h2
        rw [List.getElem?_replicate] at h2
        split at h2 <;> cases h2
    have ha : vs[i]? = some v := by
      unfold start at h2
      rw [List.getElem?_append_left (by simpa using hi), List.getElem?_map] at h2
      cases e : vs[i]? with
      | none => rw [e] at h2; cases h2
      | some a => rw [e] at h2; cases h2; rfl
    obtain ⟨u, hu, rv⟩ := r.get ha
    have hp : ps[i]? = some y := by
      rw [← S.pre, List.getElem?_take_of_lt (by omega)]; exact h1
    have ndP : ps.Nodup := by rw [← S.pre]; exact S.nd.sublist (List.take_sublist _ _)
    refine ⟨u, rv, ?_⟩
    rcases S.par y (List.mem_of_getElem? hp) with k | k
    · exact .inl ⟨k, bindL_get ndP hp hu k⟩
    · obtain ⟨c, e⟩ := cell_has (n := s.heap.objs.size + 1) k
      refine .inr ⟨.inl k, c, e, ?_⟩
      have q := x.cell y c e
      rw [bindC_get ndP hp hu (by show scope.names.lookup y ≠ _; rw [k]; decide)] at q
      exact q
  · exact e0.hok.fresh (Nat.le_of_lt (x.above y c (PySem.mem_of_lookup h)))
  · unfold start
    show _ = N.length
    rw [List.length_append, List.length_map, List.length_replicate]
    omega

theorem fn_of {CX : CXT} {P : Program} {w : World} {K : PySem.W.Frag} {mg : Str → Option Value} {base : Heap} {k : Nat} {f : Addr} {name qual : Str} {params : Arguments} {body : List Stmt} {scope : Scope} {dV kV doc pm cdv ct oc : Value} {an od : Option Addr}
    {osl : Array (Option Value)} {N ps : List Str} {sp : Sp} (lk : K.lookup f = some ⟨oc, od, .func (PySem.W.fnOf name qual params body scope dV kV doc pm an cdv ct), osl⟩) (hcd : PySem.W.codeIn K cdv qual = true) (S : FnScope N ps scope)
    (len : ∀ vs H Q E, sp vs H Q E → vs.length = ps.length)
    (hbody : ∀ (A : Around) (outer : List Env) (s : Shared) (H : Hp) (vs : List V) (Q : VK) (E : XK), Room k (A.deeper (envOfC qual scope s.heap.objs.size f cdv)) → sp vs H Q E →
      ∃ t, PSs (cxOf CX P w K mg base N qual scope f cdv A outer s H E) body t ∧ t { nx := fun _ H' => Q .non H', rt := Q } (start N vs) H) :
    FnOk P w K mg base CX (k + 1) f (PySem.W.fnOf name qual params body scope dV kV doc pm an cdv ct) ps sp := by
  refine ⟨len, fun A outer s H args us vs Q E hr e0 hb r hsp => ?_⟩
  have hl := len _ _ _ _ hsp
  have KX : K.In s.heap := e0.mod.kin.keeps fun b o e => (e0.bs b o e).1
  have lim : s.heap.NoLimit := e0.mod.nolimit.keeps fun b o e => (e0.bs b o e).1
  have hkind : ∀ y ∈ ps.zip us, scope.names.lookup y.1 = some .local ∨ (scope.names.lookup y.1 = some .cell ∧ ((cellsFrom (s.heap.objs.size + 1) scope.names []).lookup y.1).isSome = true) := fun ⟨n, v⟩ hy => by
    rcases S.par n (List.of_mem_zip hy).1 with q | q
    · exact .inl q
    · exact .inr ⟨q, PySem.W.cellsFrom_some _ _ _ (.inl q)⟩
  refine codeAny_call_function hr.depth (KX _ _ lk) rfl S.co S.gen rfl (PySem.W.codeRec_of KX hcd) (hb _ _ _ _ ?_)
  refine wpAny_newFunctionEnv_cells S.kind hkind fun env he s1 x => ?_
  subst he
  refine ⟨lim.keeps x.toInCall.keep, codeAny_func ?_⟩
  obtain ⟨t, ht, hq⟩ := hbody A outer s H vs Q E (hr.deeper _) hsp
  have I : Inv (cxOf CX P w K mg base N qual scope f cdv A outer s H E) [] (start N vs) H s1 := inv_start S hr.hd e0 hl r x
  refine wpAny_mono (ht [] s1 (start N vs) H _ I hq) (fun fl s' hs => ?_) fun e s' hs => hs
  have fin : ∀ {σ' : St} {H' : Hp} {v : V} {u : Value}, Inv (cxOf CX P w K mg base N qual scope f cdv A outer s H E) [] σ' H' s' → RelV v u → Q v H' → CE outer P w H s Q u s' :=
    fun {σ' H' v u} J rv q => ⟨v, H', J.os, J.bare, J.base, J.hok, rv, q⟩
  cases fl with
  | ret u =>
    obtain ⟨v, σ', H', J, rv, q⟩ := hs
    exact fin J rv q
  | next =>
    obtain ⟨σ', H', J, q⟩ := hs
    exact fin (v := V.non) (u := Value.none) J rfl q
  | brk =>
    obtain ⟨_, _, _, q⟩ := hs
    exact False.elim q
  | cont =>
    obtain ⟨_, _, _, q⟩ := hs
    exact False.elim q
end L2

namespace L2
open PySem PySem.Spec PyProof.Rows
section
variable {X : Cx} {x : Str} {p pos : Pos} {e : Expr} {es : List Expr} {t : TA} {id T : String} {r : List V → Hp → VK → Prop}

noncomputable def tCB (r : List V → Hp → VK → Prop) (t : TA) : TE := fun σ H Q => t σ H fun vs H1 => r vs H1 Q
theorem pe_callB (hc : CallR X (.builtin id) r) (hg : Gl X x) (hm : X.mg x = none) (hv : bootBuiltins x = some (.builtin id)) (ha : PA X (e :: es) t) (hn : x ≠ "__name__" := by decide) (hdb : (x == ("__debug__" : Str)) = false := by decide)
    (he : starEach (e :: es) X.env = (false, eval e X.env) :: starEach es X.env := by rfl) (hpl : (backTo pos (starEach es X.env)).any (·.1) = false := by rfl) : PE X (.Call (.Name x p) (e :: es) [] pos) (tCB r t) := by
  intro pins s σ H Q I h
  refine wpAny_Call_Name_kw (ld_blt I hg hm hv ?_ hn hdb)
  exact PyProof.Rows.callWith_builtin1 (thn (ha pos pins s σ H _ I h) fun us s1 ⟨vs, H1, I1, r1, q1⟩ => hc pins s1 σ H1 vs us Q I1 r1 q1) he hpl
theorem pe_callTy (hc : CallR X (.type T) r) (hg : Gl X x) (hm : X.mg x = none) (hv : bootBuiltins x = some (.type T)) (ha : PA X (e :: es) t) (hn : x ≠ "__name__" := by decide) (hdb : (x == ("__debug__" : Str)) = false := by decide)
    (he : starEach (e :: es) X.env = (false, eval e X.env) :: starEach es X.env := by rfl) (hpl : (backTo pos (starEach es X.env)).any (·.1) = false := by rfl) : PE X (.Call (.Name x p) (e :: es) [] pos) (tCB r t) := by
  intro pins s σ H Q I h
  refine wpAny_Call_Name_kw (ld_blt I hg hm hv ?_ hn hdb)
  exact PyProof.Rows.callWith_type1 (thn (ha pos pins s σ H _ I h) fun us s1 ⟨vs, H1, I1, r1, q1⟩ => hc pins s1 σ H1 vs us Q I1 r1 q1) he hpl
end
end L2

namespace HT
open PySem PyProof.Rows



section
open PySem.SeqAt
open PySem.AutoSeq1 (wpAny_loadPart')
open PySem.MeetsSeq PySem.MeetsSeq2 PySem.MeetsSeq3

end

section
variable {prog : Program} {w : World} {A : Around} {E : Value → Shared → Prop} {s : Shared}



noncomputable def sIx (n d : Nat) : Option Int → Nat
  | none => d
  | some v => if v < 0 then (v + (n : Int)).toNat else min v.toNat n
theorem sIx_none (n d : Nat) : sIx n d none = d := rfl
theorem sIx_nat (n d k : Nat) : sIx n d (some (k : Int)) = min k n := by
  show (if (k : Int) < 0 then ((k : Int) + (n : Int)).toNat else min (k : Int).toNat n) = min k n
  rw [if_neg (by omega), Int.toNat_natCast]
theorem sIx_le (n d : Nat) (hd : d ≤ n) (o : Option Int) : sIx n d o ≤ n := by
  cases o with
  | none => exact hd
  | some v =>
    show (if v < 0 then (v + (n : Int)).toNat else min v.toNat n) ≤ n
    by_cases hv : v < 0
    · rw [if_pos hv]; omega
    · rw [if_neg hv]; exact Nat.min_le_right _ _
theorem clip_eq (v : Int) (n d : Nat) : (if v < 0 then max (v + (n : Int)) 0 else min v (n : Int)) = ((sIx n d (some v) : Nat) : Int) := by
  show (if v < 0 then max (v + (n : Int)) 0 else min v (n : Int)) = (((if v < 0 then (v + (n : Int)).toNat else min v.toNat n) : Nat) : Int)
  by_cases hv : v < 0
  · simp only [if_pos hv]; omega
  · simp only [if_neg hv]; omega
theorem adjust_gen (lo hi : Option Int) (n : Nat) : Builtin.Slice.sliceAdjust lo hi 1 (n : Int) = (((sIx n 0 lo : Nat) : Int), ((sIx n n hi : Nat) : Int)) := by
  have h1 : ¬ ((1 : Int) < 0) := by omega
  unfold Builtin.Slice.sliceAdjust
  simp only [h1, if_false]
  refine Prod.ext ?_ ?_
  · cases lo with
    | none => rfl
    | some v => exact clip_eq v n 0
  · cases hi with
    | none => rfl
    | some v => exact clip_eq v n n
theorem places_gen (i j : Nat) : Builtin.Slice.slicePlaces (i : Int) (j : Int) 1 = j - i := by
  unfold Builtin.Slice.slicePlaces
  have h1 : (1 : Int) > 0 := by omega
  simp only [h1, if_true, Int.ediv_one]
  split <;> omega
theorem slicePart_ {v : Value} {o : Option Int} {Q : Option Int → Shared → Prop} (p : IsPart v o) (h : Q o s) : wpAny (model prog w) A (Builtin.Slice.slicePartIndex v) Q E s := by
  cases p with
  | none => exact slicePart_none h
  | int i t => exact slicePart_int h
theorem sliceApplied_gen {sl : Addr} {vl vu : Value} {lo hi : Option Int} {n : Nat} {Q : Int × Int × Nat → Shared → Prop} (hs : s.heap.IsSliceOf sl vl vu .none) (pl : IsPart vl lo) (pu : IsPart vu hi)
    (h : Q (((sIx n 0 lo : Nat) : Int), 1, sIx n n hi - sIx n 0 lo) s) : wpAny (model prog w) A (Builtin.Slice.sliceApplied (.ref sl) (pure (n : Int))) Q E s := by
  obtain ⟨os, hos, hcs, hds⟩ := id hs
  unfold Builtin.Slice.sliceApplied Builtin.Slice.sliceFields
  refine wpAny_bind (wpAny_bind (wpAny_field hos hds (x := vl) rfl (wpAny_bind (wpAny_field hos hds (x := vu) rfl (wpAny_bind (wpAny_field hos hds (x := .none) rfl (wpAny_pure ?_)))))))
  refine wpAny_bind (slicePart_none ?_)
  show wpAny _ _ (if ((1 : Int) == 0) = true then _ else _) _ _ s
  rw [if_neg (by decide)]
  refine wpAny_bind (slicePart_ pl (wpAny_bind (slicePart_ pu (wpAny_bind (wpAny_pure ?_)))))
  show wpAny _ _ (match Builtin.Slice.sliceAdjust lo hi 1 (n : Int) with | (lo, hi) => pure (lo, (1 : Int), Builtin.Slice.slicePlaces lo hi 1)) _ _ s
  rw [adjust_gen lo hi n]
  show wpAny _ _ (pure (((sIx n 0 lo : Nat) : Int), (1 : Int), Builtin.Slice.slicePlaces ((sIx n 0 lo : Nat) : Int) ((sIx n n hi : Nat) : Int) 1)) _ _ s
  rw [places_gen]
  exact wpAny_pure h
theorem pick_gen (xs : Array Value) (i k : Nat) : ((List.range k).filterMap fun (m : Nat) => xs[((i : Int) + (m : Int) * 1).toNat]?).toArray = ((xs.toList.drop i).take k).toArray := by
  have e : (fun (m : Nat) => xs[((i : Int) + (m : Int) * 1).toNat]?) = fun m => xs[i + m]? := by
    funext m
    have : ((i : Int) + (m : Int) * 1).toNat = i + m := by omega
    rw [this]
  rw [e]
  have := pick_run xs i k
  rw [List.filterMap_map] at this
  have e2 : ((fun x => xs[x]?) ∘ fun x => i + x) = fun m => xs[i + m]? := rfl
  rw [e2] at this
  rw [this]

theorem getItem_tuple_cut {t sl : Addr} {items : Array Value} {vl vu : Value} {lo hi : Option Int} {Q : Value → Shared → Prop} (ht : IsTup s.heap t items) (hs : s.heap.IsSliceOf sl vl vu .none) (pl : IsPart vl lo) (pu : IsPart vu hi)
    (hw : ¬ (sIx items.size 0 lo = 0 ∧ sIx items.size items.size hi = items.size))
    (h : Q (.ref s.heap.objs.size) { s with heap := s.heap.push { cls := .type "tuple", data := .seq ((items.toList.drop (sIx items.size 0 lo)).take (sIx items.size items.size hi - sIx items.size 0 lo)).toArray } })
    (hsz : items.size ≤ sizeLine) : wpAny (model prog w) A (getItem (.ref t) (.ref sl)) Q E s := by
  have htake : sizeOk (.seq ((items.toList.drop (sIx items.size 0 lo)).take (sIx items.size items.size hi - sIx items.size 0 lo)).toArray) := by
    show ((items.toList.drop (sIx items.size 0 lo)).take (sIx items.size items.size hi - sIx items.size 0 lo)).toArray.size ≤ sizeLine
    rw [List.size_toArray, List.length_take, List.length_drop, Array.length_toList]
    omega
  have hj : sIx items.size items.size hi ≤ items.size := sIx_le _ _ (Nat.le_refl _) hi
  obtain ⟨os, hos, hcs, hds⟩ := id hs
  have hTs : s.TypeIs (.ref sl) "slice" := ⟨os, hos, hcs⟩
  unfold getItem
  try with_reducible refine wpAny_holding ?_
  first | refine wpAny_bind (wpAny_pure ?_) | skip
  refine wpAny_bind (wpAny_sequenceKey ht.typeIs (by decide) ?_)
  refine wpAny_bind (wpAny_callSpecial?_slot (name := Str.ofString "__getitem__") ht.typeIs PyProof.Rows.slot_tuple_getitem
    (wpAny_call_entry PyProof.Rows.slot_tuple_getitem ht.typeIs entry_tuple_getitem ?_ (args_tuple_getitem _ _)))
  show wpAny _ _ (Builtin.Tuple.tupleItemsOf (.ref t) >>= _) _ _ s
  refine wpAny_bind (tupleItemsOf_ ht ?_)
  refine wpAny_bind (wpAny_typeOf hTs ?_)
  rw [if_pos (by decide)]
  refine wpAny_bind (sliceApplied_gen hs pl pu ?_)
  have hno : ¬ ((((sIx items.size 0 lo : Nat) : Int) == 0 && (1 : Int) == 1 && (sIx items.size items.size hi - sIx items.size 0 lo) == items.size) = true) := by
    intro q
    rw [Bool.and_eq_true, Bool.and_eq_true] at q
    have q1 : ((sIx items.size 0 lo : Nat) : Int) = 0 := eq_of_beq q.1.1
    have q2 : sIx items.size items.size hi - sIx items.size 0 lo = items.size := eq_of_beq q.2
    exact hw ⟨by omega, by omega⟩
  show wpAny _ _ (if (((sIx items.size 0 lo : Nat) : Int) == 0 && (1 : Int) == 1 && (sIx items.size items.size hi - sIx items.size 0 lo) == items.size) = true then _ else _) _ _ s
  rw [if_neg hno, pick_gen]
  first
    | exact wpAny_bind (m := Builtin.Tuple.tupleExact _) (wpAny_newObj_type (wpAny_pure ⟨_, rfl, wpAny_pure h⟩) htake)
    | exact wpAny_bind (m := Builtin.Tuple.tupleExact _) (wpAny_newObj_type (wpAny_bind (wpAny_pure (wpAny_pure ⟨_, rfl, wpAny_pure h⟩))) htake)
    | exact wpAny_bind (wpAny_bind (m := Builtin.Tuple.tupleExact _) (wpAny_newObj_type (wpAny_pure (wpAny_pure ⟨_, rfl, wpAny_pure h⟩)) htake))
    | exact wpAny_bind (wpAny_bind (m := Builtin.Tuple.tupleExact _) (wpAny_newObj_type (wpAny_pure ⟨_, rfl, wpAny_pure h⟩) htake))
end
end HT

namespace L2
open PySem PySem.Spec PyProof.Rows

abbrev TO := St → Hp → (Option Int → Hp → Prop) → Prop
noncomputable def PO (X : Cx) (e : Option Expr) (t : TO) : Prop :=
  ∀ (pins : List (Addr × Obj)) (s : Shared) (σ : St) (H : Hp) (Q : Option Int → Hp → Prop), Inv X pins σ H s → t σ H Q →
    wpAny (model X.prog X.w) X.A (evalPart e X.env) (fun u s' => ∃ o H', Inv X pins σ H' s' ∧ IsPart u o ∧ Q o H') X.xe s
noncomputable def tNoPart : TO := fun _ H Q => Q none H
noncomputable def tPart (t : TE) : TO := fun σ H Q => t σ H fun x H1 => ∃ i, x = .int i ∧ Q (some i) H1


section
variable {X : Cx} {e : Expr} {te : TE} {lo hi : Option Expr} {tl th : TO} {pos p2 : Pos}

theorem po_none : PO X none tNoPart := by
  intro pins s σ H Q I h
  rw [evalPart_none]
  exact wpAny_pure ⟨none, H, I, .none, h⟩
theorem po_some (h : PE X e te) : PO X (some e) (tPart te) := by
  intro pins s σ H Q I hw
  rw [evalPart_some]
  refine thn (h pins s σ H _ I hw) fun u s1 ⟨x, H1, I1, r1, q1⟩ => ?_
  obtain ⟨i, rfl, q⟩ := q1
  obtain ⟨t, rfl⟩ := r1
  exact ⟨some i, H1, I1, .int i t, q⟩

noncomputable def SlR (X : Cx) (r : V → Option Int → Option Int → Hp → VK → Prop) : Prop :=
  ∀ (pins : List (Addr × Obj)) (s : Shared) (σ : St) (H : Hp) (x : V) (v vl vu : Value) (lo hi : Option Int) (sl : Addr) (Q : VK), Inv X pins σ H s → RelV x v → s.heap.IsSliceOf sl vl vu .none → IsPart vl lo → IsPart vu hi → r x lo hi H Q →
    ∃ T id, typeLookup (.type T) "__getitem__" = pure (some (.builtin id)) ∧ s.TypeIs v T ∧ wpAny (model X.prog X.w) X.A (getItem v (.ref sl)) (EP X pins σ Q) X.xe s
noncomputable def tSl (r : V → Option Int → Option Int → Hp → VK → Prop) (te : TE) (tl th : TO) : TE := fun σ H Q => te σ H fun x H1 => tl σ H1 fun l H2 => th σ H2 fun u H3 => r x l u H3 Q
theorem pe_slice {r : V → Option Int → Option Int → Hp → VK → Prop} (hr : SlR X r) (he : PE X e te) (hl : PO X lo tl) (hu : PO X hi th) : PE X (.Subscript e (.Slice lo hi none p2) pos) (tSl r te tl th) := by
  intro pins s σ H Q I h
  refine Subscript_ (thn (he pins s σ H _ I h) fun v s1 ⟨x, H1, I1, r1, q1⟩ => ?_)
  refine wpAny_Slice (thn (hl pins s1 σ H1 _ I1 q1) fun vl s2 ⟨l, H2, I2, pl, q2⟩ => thn (hu pins s2 σ H2 _ I2 q2) fun vu s3 ⟨u, H3, I3, pu, q3⟩ => ?_)
  rw [evalPart_none]
  refine wpAny_pure ?_
  have I4 : Inv X pins σ H3 { s3 with heap := s3.heap.push { cls := .type "slice", data := .fields #[vl, vu, .none] } } := I3.kept (t' := s3.toks) fun b ob q => Heap.get?_push_of_some _ q
  obtain ⟨T, id, hT, ht, hg⟩ := hr pins { s3 with heap := s3.heap.push { cls := .type "slice", data := .fields #[vl, vu, .none] } } σ H3 x v vl vu l u s3.heap.objs.size Q I4 r1 (Heap.IsSliceOf.new ..) pl pu q3
  show wpAny (model X.prog X.w) X.A (subscriptTail e (.Slice lo hi none p2) v (.ref s3.heap.objs.size)) (EP X pins σ Q) X.xe { s3 with heap := s3.heap.push { cls := .type "slice", data := .fields #[vl, vu, .none] } }
  exact tail_any (ops := [.ref s3.heap.objs.size, v]) ht hT hg (by with_unfolding_all rfl)

noncomputable def cutV (xs : List V) (lo hi : Option Int) : List V := (xs.drop (HT.sIx xs.length 0 lo)).take (HT.sIx xs.length xs.length hi - HT.sIx xs.length 0 lo)
theorem cutV_length (xs : List V) (lo hi : Option Int) : (cutV xs lo hi).length ≤ xs.length := by
  unfold cutV
  rw [List.length_take, List.length_drop]
  omega
noncomputable def rSlT (K : PySem.W.Frag) : V → Option Int → Option Int → Hp → VK → Prop := fun x lo hi H Q => ∃ a xs, x = .ref a ∧ SqT K H a xs ∧
  ¬ (HT.sIx xs.length 0 lo = 0 ∧ HT.sIx xs.length xs.length hi = xs.length) ∧ ∀ p, H p = none → Q (.ref p) (upd H p (.tup (cutV xs lo hi)))
theorem sl_tup : SlR X (rSlT X.K) := by
  intro pins s σ H x v vl vu lo hi sl Q I rx hs pl pu h
  obtain ⟨a, xs, rfl, hx, hw, q⟩ := h
  cases rx
  obtain ⟨its, r, ht, hz⟩ := I.tuple hx
  have hlen : its.toArray.size = xs.length := by rw [List.size_toArray]; exact r.length.symm
  refine ⟨"tuple", _, PyProof.Rows.slot_tuple_getitem.lookup, ht.typeIs, ?_⟩
  refine HT.getItem_tuple_cut ht hs pl pu (by rw [hlen]; exact hw) ?_ (by rw [hlen]; exact hz)
  rw [hlen]
  refine ⟨.ref s.heap.objs.size, _, I.laid (t' := s.toks) (o := .tup (cutV xs lo hi)) (fun b ob q => Heap.get?_push_of_some _ q) (Nat.le_refl _) ?_, rfl, q _ (I.hok.fresh (Nat.le_refl _))⟩
  exact ⟨Nat.le_trans (cutV_length xs lo hi) hz, _, (r.drop (HT.sIx xs.length 0 lo)).take (HT.sIx xs.length xs.length hi - HT.sIx xs.length 0 lo), IsTup.new _ _⟩

end
end L2

namespace L2
open PySem PySem.Spec PyProof.Rows

noncomputable def ixN (n : Nat) (i : Int) : Option Nat := if 0 ≤ i then (if i < n then some i.toNat else none) else if -(n : Int) ≤ i then some (i + n).toNat else none
noncomputable def atI {α : Type} (xs : List α) (i : Int) : Option α := (ixN xs.length i).bind fun j => xs[j]?
theorem ixN_seq {n : Nat} {i : Int} {j : Nat} (h : ixN n i = some j) : seqIndex? i n = some j ∧ j < n ∧ -(n : Int) ≤ i ∧ i < n := by
  unfold ixN at h
  by_cases h0 : 0 ≤ i
  · rw [if_pos h0] at h
    by_cases h1 : i < n
    · rw [if_pos h1] at h
      have e : i.toNat = j := Option.some.inj h
      exact ⟨by rw [seqIndex_of h0 h1, e], by omega, by omega, h1⟩
    · rw [if_neg h1] at h; cases h
  · rw [if_neg h0] at h
    by_cases h1 : -(n : Int) ≤ i
    · rw [if_pos h1] at h
      have e : (i + n).toNat = j := Option.some.inj h
      exact ⟨by rw [seqIndex_neg (by omega) h1, e], by omega, h1, by omega⟩
    · rw [if_neg h1] at h; cases h
theorem atI_get {α : Type} {xs : List α} {i : Int} {v : α} (h : atI xs i = some v) : ∃ j, seqIndex? i xs.length = some j ∧ xs[j]? = some v ∧ j < xs.length ∧ -(xs.length : Int) ≤ i ∧ i < xs.length := by
  unfold atI at h
  cases e : ixN xs.length i with
  | none => rw [e] at h; cases h
  | some j =>
    rw [e] at h
    obtain ⟨h1, h2, h3, h4⟩ := ixN_seq e
    exact ⟨j, h1, h, h2, h3, h4⟩
theorem atI_nat {α : Type} {xs : List α} {j : Nat} {v : α} (h : xs[j]? = some v) : atI xs (j : Int) = some v := by
  have hj : j < xs.length := (List.getElem?_eq_some_iff.mp h).1
  have e : ixN xs.length (j : Int) = some j := by
    unfold ixN
    rw [if_pos (by omega), if_pos (by omega)]; simp
  unfold atI; rw [e]; exact h

noncomputable def PlainIx (b : Expr) : Prop := ∀ o i, subscripted b false o i = operate [o, i] (getItem o i)
noncomputable def IxR (X : Cx) (r : R2) : Prop :=
  ∀ (value slice : Expr) (pins : List (Addr × Obj)) (s : Shared) (σ : St) (H : Hp) (x y : V) (v u : Value) (Q : VK), Inv X pins σ H s → RelV x v → RelV y u → r x y H Q →
    subscripted slice false v u = operate [v, u] (getItem v u) → wpAny (model X.prog X.w) X.A (subscriptTail value slice v u) (EP X pins σ Q) X.xe s
noncomputable def MtR (X : Cx) (id : String) (r : V → List V → Hp → VK → Prop) : Prop :=
  ∀ (pins : List (Addr × Obj)) (s : Shared) (σ : St) (H : Hp) (x : V) (xs : List V) (v : Value) (us : List Value) (Q : VK), Inv X pins σ H s → RelV x v → Vals xs us → r x xs H Q →
    wpAny (model X.prog X.w) X.A (call (.builtin id) (v :: us)) (EP X pins σ Q) X.xe s
section
variable {X : Cx} {a b : Expr} {ta tb : TE} {pos : Pos}
theorem IxR.or {r r' : R2} (h : IxR X r) (h' : IxR X r') : IxR X (fun x y H Q => r x y H Q ∨ r' x y H Q) := by
  intro value slice pins s σ H x y v u Q I rx ry q hs
  rcases q with q | q
  · exact h value slice pins s σ H x y v u Q I rx ry q hs
  · exact h' value slice pins s σ H x y v u Q I rx ry q hs
theorem pe_ix {r : R2} (hr : IxR X r) (ha : PE X a ta) (hb : PE X b tb) (hs : PlainIx b) : PE X (.Subscript a b pos) (tOp r ta tb) := by
  intro pins s σ H Q I h
  exact Subscript_ (binT ha hb I h fun v u s2 x y H2 I2 rx ry q => hr a b pins s2 σ H2 x y v u Q I2 rx ry q (hs _ _))

noncomputable def rIxL (K : PySem.W.Frag) : R2 := fun x y H Q => ∃ p xs i v, x = .ref p ∧ y = .int i ∧ SqL K H p xs ∧ atI xs i = some v ∧ Q v H
noncomputable def rIxT (K : PySem.W.Frag) : R2 := fun x y H Q => ∃ p xs i v, x = .ref p ∧ y = .int i ∧ SqT K H p xs ∧ atI xs i = some v ∧ Q v H
noncomputable def rIxS : R2 := fun x y H Q => ∃ z i c, x = .str z ∧ y = .int i ∧ z.length ≤ sizeLine ∧ atI z.cps.toList i = some c ∧ Q (.str ⟨#[c]⟩) H
theorem ix_list : IxR X (rIxL X.K) := by
  intro value slice pins s σ H x y v u Q I rx ry h hs
  obtain ⟨p, xs, i, z, rfl, rfl, hq, he, q⟩ := h
  cases rx
  obtain ⟨t, rfl⟩ := ry
  obtain ⟨its, r, pl, hz⟩ := I.list hq
  obtain ⟨j, h1, h2, h3, h4, h5⟩ := atI_get he
  obtain ⟨w, ew, rw'⟩ := r.get h2
  have hl := r.length
  have hn := line63
  have fin : EP X pins σ Q w s := ⟨z, H, I, rw', q⟩
  by_cases h0 : 0 ≤ i
  · have hj : i.toNat = j := by
      rw [seqIndex_of h0 h5] at h1
      exact Option.some.inj h1
    exact item_listR pl.isList h0 (by omega) (by rw [hj]; simpa using ew) fin hs
  · have hj : (i + (its.toArray.size : Int)).toNat = j := by
      rw [seqIndex_neg (by omega) h4] at h1
      rw [List.size_toArray, ← hl]
      exact Option.some.inj h1
    exact subscriptTail_builtinR (x := w) pl.isList.typeIs slot_list_getitem.lookup
      (wpAny_getItem_list_neg (Q := fun r s' => r = w ∧ EP X pins σ Q r s') pl.isList (by omega) (by rw [List.size_toArray] <;> omega) (by omega) (by rw [hj]; simpa using ew) ⟨rfl, fin⟩) hs
theorem ix_tup : IxR X (rIxT X.K) := by
  intro value slice pins s σ H x y v u Q I rx ry h hs
  obtain ⟨p, xs, i, z, rfl, rfl, hq, he, q⟩ := h
  cases rx
  obtain ⟨t, rfl⟩ := ry
  obtain ⟨its, r, pl, hz⟩ := I.tuple hq
  obtain ⟨j, h1, h2, h3, h4, h5⟩ := atI_get he
  obtain ⟨w, ew, rw'⟩ := r.get h2
  have hl := r.length
  have hn := line63
  have fin : EP X pins σ Q w s := ⟨z, H, I, rw', q⟩
  exact subscriptTail_builtinR (x := w) pl.typeIs slot_tuple_getitem.lookup
    (getItem_tuple (j := j) (Q := fun r s' => r = w ∧ EP X pins σ Q r s') pl (by omega) (by omega) (by rw [List.size_toArray, ← hl]; exact h1) (by simpa using ew) ⟨rfl, fin⟩) hs
theorem ix_str : IxR X rIxS := by
  intro value slice pins s σ H x y v u Q I rx ry h hs
  obtain ⟨z, i, c, rfl, rfl, hz, he, q⟩ := h
  obtain ⟨t, rfl⟩ := rx
  obtain ⟨t', rfl⟩ := ry
  obtain ⟨j, h1, h2, h3, h4, h5⟩ := atI_get he
  have hl : z.cps.toList.length = z.length := by simp [Str.length]
  rw [hl] at h1 h4 h5
  have hn := line63
  exact tail_any (typeIs_str s z t) slot_str_getitem.lookup (getItem_str (c := c) (by
    have e1 : decide (i < -(2 ^ 63 : Int)) = false := decide_eq_false (by omega)
    have e2 : decide (i ≥ 2 ^ 63) = false := decide_eq_false (by omega)
    rw [e1, e2, Bool.or_false]) (by rw [h1]; simpa using h2) ⟨.str ⟨#[c]⟩, H, I.tok _, ⟨_, rfl⟩, q⟩) hs

theorem mapSeq_set (its : List Value) (n j : Nat) (u : Value) : Obj.mapSeq (·.setIfInBounds j u) { cls := .type "list", data := .seq its.toArray n } = { cls := .type "list", data := .seq (its.set j u).toArray n } := by
  simp [Obj.mapSeq]
theorem Inv.lst {pins : List (Addr × Obj)} {σ : St} {H : Hp} {s : Shared} {p : Addr} {xs : List V} (I : Inv X pins σ H s) (h : H p = some (.lst xs)) :
    ∃ (its : List Value) (n : Nat), Vals xs its ∧ s.heap.get? p = some { cls := .type "list", data := .seq its.toArray n } ∧ xs.length ≤ sizeLine := by
  obtain ⟨z, its, n, r, e⟩ := I.hok p _ h
  exact ⟨its, n, r, e, z⟩
theorem Inv.lstUpd {pins : List (Addr × Obj)} {σ : St} {H : Hp} {s : Shared} {p : Addr} {xs ys : List V} {its its' : List Value} {n n' : Nat} {f : Obj → Obj} (I : Inv X pins σ H s) (h : H p = some (.lst xs))
    (ho : s.heap.get? p = some { cls := .type "list", data := .seq its.toArray n }) (hf : f { cls := .type "list", data := .seq its.toArray n } = { cls := .type "list", data := .seq its'.toArray n' }) (r : Vals ys its') (hz : ys.length ≤ sizeLine) (t : Nat) :
    Inv X pins σ (upd H p (.lst ys)) { s with heap := s.heap.update p f, toks := t } := by
  have e : (s.heap.update p f).get? p = some { cls := .type "list", data := .seq its'.toArray n' } := by
    rw [Heap.get?_update_self f ho (by rw [hf] <;> rfl), hf]
  refine I.write (x := p) (e := p) (by rw [h]; trivial) (.inl rfl) (fun b u hb q => (Heap.get?_update_other _ _ (Ne.symm hb)).trans q) ⟨_, e⟩ ?_
  exact ⟨hz, its', n', r, e⟩
noncomputable def rSetL : V → V → V → Hp → (Hp → Prop) → Prop := fun o i v H Q => ∃ p xs k j, o = .ref p ∧ i = .int k ∧ H p = some (.lst xs) ∧ ixN xs.length k = some j ∧ Q (upd H p (.lst (xs.set j v)))
theorem set_list : PSet X rSetL := by
  intro pins s σ H o i v ov iv u Q I ro ri rv h
  obtain ⟨p, xs, k, j, rfl, rfl, hp, hj, q⟩ := h
  cases ro
  obtain ⟨t, rfl⟩ := ri
  obtain ⟨its, n, r, ho, hz⟩ := I.lst hp
  obtain ⟨h1, h2, h3, h4⟩ := ixN_seq hj
  have hl := r.length
  have hn := line63
  have I' : Inv X pins σ (upd H p (.lst (xs.set j v))) { s with heap := s.heap.update p (Obj.mapSeq (·.setIfInBounds j u)) } :=
    I.lstUpd hp ho (mapSeq_set its n j u) (r.set rv j) (by rw [List.length_set]; exact hz) s.toks
  by_cases h0 : 0 ≤ k
  · have hk : k.toNat = j := by
      rw [seqIndex_of h0 h4] at h1
      exact Option.some.inj h1
    exact PySem.W.ki_setAt ho h0 (by omega) (by rw [List.size_toArray, ← hl]; exact h4) (by rw [hk]; exact ⟨_, I', q⟩)
  · have hk : (k + (its.toArray.size : Int)).toNat = j := by
      rw [seqIndex_neg (by omega) h3] at h1
      rw [List.size_toArray, ← hl]
      exact Option.some.inj h1
    exact PySem.W.ki_setBack ho (by omega) (by rw [List.size_toArray, ← hl]; exact h3) (by omega) (by rw [hk]; exact ⟨_, I', q⟩)

theorem sl_bd (i : Int) (n : Nat) : max 0 (min (if i < 0 then i + (n : Int) else i) (n : Int)) = (((if i < 0 then (i + (n : Int)).toNat else min i.toNat n) : Nat) : Int) := by
  by_cases h : i < 0
  · rw [if_pos h, if_pos h, Int.min_eq_left (by omega)]
    omega
  · obtain ⟨k, rfl⟩ := Int.eq_ofNat_of_zero_le (Int.not_lt.mp h)
    rw [if_neg h, if_neg h, Int.toNat_natCast]
    omega
theorem slice_bounds (lo hi : Option Int) (n : Nat) : (sliceBounds lo hi none n).1 = ((HT.sIx n 0 lo : Nat) : Int) ∧ (sliceBounds lo hi none n).2.1 = ((HT.sIx n n hi : Nat) : Int) ∧ (sliceBounds lo hi none n).2.2 = 1 := by
  refine ⟨?_, ?_, rfl⟩
  · cases lo with
    | none => simp [sliceBounds, HT.sIx]
    | some i =>
      simp only [sliceBounds, HT.sIx, Option.getD_none, show (1 : Int) > 0 by decide, if_true]
      exact sl_bd i n
  · cases hi with
    | none => simp [sliceBounds, HT.sIx]
    | some i =>
      simp only [sliceBounds, HT.sIx, Option.getD_none, show (1 : Int) > 0 by decide, if_true]
      exact sl_bd i n
theorem slicePick_cut (its : List Value) (lo hi : Option Int) : slicePick its.toArray lo hi none = ((its.drop (HT.sIx its.length 0 lo)).take (HT.sIx its.length its.length hi - HT.sIx its.length 0 lo)).toArray := by
  obtain ⟨h1, h2, h3⟩ := slice_bounds lo hi its.toArray.size
  unfold slicePick
  rw [h1, h2, h3]
  simp only [sliceRange_one, pick_run, List.size_toArray] <;> rfl
noncomputable def rSlL (K : PySem.W.Frag) : V → Option Int → Option Int → Hp → VK → Prop := fun x lo hi H Q => ∃ a xs, x = .ref a ∧ SqL K H a xs ∧ ∀ p, H p = none → Q (.ref p) (upd H p (.lst (cutV xs lo hi)))
theorem sl_list : SlR X (rSlL X.K) := by
  intro pins s σ H x v vl vu lo hi sl Q I rx hs pl pu h
  obtain ⟨a, xs, rfl, hx, q⟩ := h
  cases rx
  obtain ⟨its, r, ht, hz⟩ := I.list hx
  have hlen := r.length
  refine ⟨"list", _, slot_list_getitem.lookup, ht.isList.typeIs, ?_⟩
  refine wpAny_getItem_list_slice ht.isList hs pl pu .none (by simp) ?_ (by rw [List.size_toArray] <;> omega)
  rw [slicePick_cut, ← hlen]
  refine ⟨.ref s.heap.objs.size, _, I.laid (t' := s.toks) (o := .lst (cutV xs lo hi)) (fun b ob q => Heap.get?_push_of_some _ q) (Nat.le_refl _) ?_, rfl, q _ (I.hok.fresh (Nat.le_refl _))⟩
  exact ⟨Nat.le_trans (cutV_length xs lo hi) hz, _, 0, (r.drop (HT.sIx xs.length 0 lo)).take (HT.sIx xs.length xs.length hi - HT.sIx xs.length 0 lo), Heap.get?_push_size _ rfl⟩

noncomputable def flatV : V → Bool
  | .non => true
  | .bl _ => true
  | .int _ => true
  | .str _ => true
  | _ => false
noncomputable def eqV : V → V → Bool
  | .non, .non => true
  | .bl a, .bl b => a == b
  | .bl a, .int b => (if a then 1 else 0) == b
  | .int a, .bl b => a == (if b then 1 else 0)
  | .int a, .int b => a == b
  | .str a, .str b => a == b
  | _, _ => false
theorem eqAt_V {A : Around} {s : Shared} {y x : V} {u v : Value} (ry : RelV y u) (rx : RelV x v) (fy : flatV y = true) (fx : flatV x = true) : SeqAt.EqAt A s u v (eqV y x) := by
  cases y with
  | non =>
    cases ry
    cases x with
    | non => cases rx; exact SeqAt.EqAt.same _
    | bl b => cases rx; exact SeqAt.EqAt.none_bool b
    | int b => obtain ⟨t, rfl⟩ := rx; exact SeqAt.EqAt.none_int b t
    | str b => obtain ⟨t, rfl⟩ := rx; exact SeqAt.EqAt.none_str b t
    | _ => exact absurd (show false = true from fx) Bool.false_ne_true
  | bl a =>
    cases ry
    cases x with
    | non => cases rx; exact SeqAt.EqAt.bool_none a
    | bl b => cases rx; exact SeqAt.EqAt.bool_bool a b
    | int b => obtain ⟨t, rfl⟩ := rx; exact SeqAt.EqAt.bool_int a b t
    | str b => obtain ⟨t, rfl⟩ := rx; exact SeqAt.EqAt.bool_str a b t
    | _ => exact absurd (show false = true from fx) Bool.false_ne_true
  | int a =>
    obtain ⟨t', rfl⟩ := ry
    cases x with
    | non => cases rx; exact SeqAt.EqAt.int_none a t'
    | bl b => cases rx; exact SeqAt.EqAt.int_bool a t' b
    | int b => obtain ⟨t, rfl⟩ := rx; exact SeqAt.EqAt.int_int a t' b t
    | str b => obtain ⟨t, rfl⟩ := rx; exact SeqAt.EqAt.int_str a t' b t
    | _ => exact absurd (show false = true from fx) Bool.false_ne_true
  | str a =>
    obtain ⟨t', rfl⟩ := ry
    cases x with
    | non => cases rx; exact SeqAt.EqAt.str_none a t'
    | bl b => cases rx; exact SeqAt.EqAt.str_bool a t' b
    | int b => obtain ⟨t, rfl⟩ := rx; exact SeqAt.EqAt.str_int a t' b t
    | str b => obtain ⟨t, rfl⟩ := rx; exact SeqAt.EqAt.str_str a t' b t
    | _ => exact absurd (show false = true from fx) Bool.false_ne_true
  | _ => exact absurd (show false = true from fy) Bool.false_ne_true
noncomputable def eqU (x : V) (u : Value) : Bool := match u with
  | .none => eqV .non x
  | .bool b => eqV (.bl b) x
  | .int i _ => eqV (.int i) x
  | .str z _ => eqV (.str z) x
  | _ => false
theorem eqU_of {x y : V} {u : Value} (r : RelV y u) (f : flatV y = true) : eqU x u = eqV y x := by
  cases y with
  | non => cases r; rfl
  | bl b => cases r; rfl
  | int i => obtain ⟨t, rfl⟩ := r; rfl
  | str z => obtain ⟨t, rfl⟩ := r; rfl
  | _ => exact absurd (show false = true from f) Bool.false_ne_true
theorem any_eqU {x : V} : ∀ {xs : List V} {us : List Value}, Vals xs us → xs.all flatV = true → us.any (eqU x) = xs.any fun y => eqV y x
  | _, _, .nil, _ => rfl
  | y :: xs, u :: us, .cons r t, f => by
    rw [List.all_cons, Bool.and_eq_true] at f
    rw [List.any_cons, List.any_cons, eqU_of r f.1, any_eqU t f.2]
theorem mem_eqAt {A : Around} {s : Shared} {x : V} {v : Value} (rx : RelV x v) (fx : flatV x = true) : ∀ {xs : List V} {us : List Value}, Vals xs us → xs.all flatV = true → ∀ u ∈ us, SeqAt.EqAt A s u v (eqU x u)
  | _, _, .nil, _ => fun u hu => by cases hu
  | y :: xs, u :: us, .cons r t, f => fun u' hu => by
    rw [List.all_cons, Bool.and_eq_true] at f
    rcases List.mem_cons.mp hu with rfl | hu
    · rw [eqU_of r f.1]; exact eqAt_V r rx f.1 fx
    · exact mem_eqAt rx fx t f.2 u' hu
noncomputable def inV (x : V) (xs : List V) : Bool := xs.any fun y => eqV y x
noncomputable def rIn (K : PySem.W.Frag) (neg : Bool) : R2 := fun x y H Q => ∃ p xs, y = .ref p ∧ (SqL K H p xs ∨ SqT K H p xs) ∧ flatV x = true ∧ xs.all flatV = true ∧ Q (.bl (if neg then !inV x xs else inV x xs)) H
theorem op_in_seq : OpR X (compareOp .In) (rIn X.K false) := by
  intro pins s σ H x y v u Q I rx ry h
  obtain ⟨p, xs, rfl, hq, fx, fs, q⟩ := h
  cases ry
  rcases hq with hq | hq
  · obtain ⟨its, r, pl, hz⟩ := I.list hq
    refine SeqAt.in_listAt (eqU x) pl.isList (fun w hw => mem_eqAt rx fx r fs w (by simpa using hw)) ⟨.bl _, H, I, rfl, ?_⟩
    rw [show its.toArray.any (eqU x) = its.any (eqU x) by simp, any_eqU r fs]
    exact q
  · obtain ⟨its, r, pl, hz⟩ := I.tuple hq
    refine SeqAt.in_tupleAt (eqU x) pl (fun w hw => mem_eqAt rx fx r fs w (by simpa using hw)) ⟨.bl _, H, I, rfl, ?_⟩
    rw [show its.toArray.any (eqU x) = its.any (eqU x) by simp, any_eqU r fs]
    exact q
theorem op_notIn_seq : OpR X (compareOp .NotIn) (rIn X.K true) := by
  intro pins s σ H x y v u Q I rx ry h
  obtain ⟨p, xs, rfl, hq, fx, fs, q⟩ := h
  cases ry
  rcases hq with hq | hq
  · obtain ⟨its, r, pl, hz⟩ := I.list hq
    refine SeqAt.notIn_listAt (eqU x) pl.isList (fun w hw => mem_eqAt rx fx r fs w (by simpa using hw)) ⟨.bl _, H, I, rfl, ?_⟩
    rw [show its.toArray.any (eqU x) = its.any (eqU x) by simp, any_eqU r fs]
    exact q
  · obtain ⟨its, r, pl, hz⟩ := I.tuple hq
    refine SeqAt.notIn_tupleAt (eqU x) pl (fun w hw => mem_eqAt rx fx r fs w (by simpa using hw)) ⟨.bl _, H, I, rfl, ?_⟩
    rw [show its.toArray.any (eqU x) = its.any (eqU x) by simp, any_eqU r fs]
    exact q

theorem call_len_seq : CallR X (.builtin "len") (fun xs H Q => ∃ p ys, xs = [.ref p] ∧ (SqL X.K H p ys ∨ SqT X.K H p ys) ∧ Q (.int ys.length) H) := by
  intro pins s σ H xs us Q I r h
  obtain ⟨p, ys, rfl, hq, q⟩ := h
  obtain ⟨u, rfl, rx⟩ := vals1 r
  cases rx
  have hn := line63
  rcases hq with hq | hq
  · obtain ⟨its, r', pl, hz⟩ := I.list hq
    have hlen := r'.length
    exact Calls.call_len_list pl.isList (by simp only [List.size_toArray] <;> omega) ⟨.int ys.length, H, I.tok _, ⟨s.toks + 1, by rw [List.size_toArray, hlen]⟩, q⟩
  · obtain ⟨its, r', pl, hz⟩ := I.tuple hq
    have hlen := r'.length
    exact len_tuple pl (by simp only [List.size_toArray] <;> omega) ⟨.int ys.length, H, I.tok _, ⟨s.toks + 1, by rw [List.size_toArray, hlen]⟩, q⟩
theorem call_len_str : CallR X (.builtin "len") (fun xs H Q => ∃ z, xs = [.str z] ∧ z.length ≤ sizeLine ∧ Q (.int z.length) H) := by
  intro pins s σ H xs us Q I r h
  obtain ⟨z, rfl, hz, q⟩ := h
  obtain ⟨u, rfl, t, rfl⟩ := vals1 r
  have hn := line63
  exact len_str (by omega) ⟨.int z.length, H, I.tok _, ⟨_, rfl⟩, q⟩
theorem call_list_of : CallR X (.type "list") (fun xs H Q => ∃ p ys, xs = [.ref p] ∧ (SqL X.K H p ys ∨ SqT X.K H p ys) ∧ ∀ l, H l = none → Q (.ref l) (upd H l (.lst ys))) := by
  intro pins s σ H xs us Q I r h
  obtain ⟨p, ys, rfl, hq, q⟩ := h
  obtain ⟨u, rfl, rx⟩ := vals1 r
  cases rx
  have fin : ∀ (its : List Value), Vals ys its → ys.length ≤ sizeLine → ∀ (h' : Heap) (c' : Nat), (∀ b o', s.heap.get? b = some o' → h'.get? b = some o') →
      h'.get? s.heap.objs.size = some { cls := .type "list", dict := none, data := .seq its.toArray c', slots := #[] } → EP X pins σ Q (.ref s.heap.objs.size) { s with heap := h' } := fun its r' hz h' c' kp e =>
    ⟨.ref s.heap.objs.size, _, I.laid (t' := s.toks) kp (Nat.le_refl _) (show ObjOk X.prog X.w _ h' _ (.lst ys) from ⟨hz, its, c', r', e⟩), rfl, q _ (I.hok.fresh (Nat.le_refl _))⟩
  rcases hq with hq | hq
  · obtain ⟨its, r', pl, hz⟩ := I.list hq
    have hlen := r'.length
    obtain ⟨o, ho, hc, n, hd⟩ := pl.isList
    exact call_list_seq p (.inl rfl) ho hc hd (fun h' c' kp e => fin its r' hz h' c' kp e) (by simp only [List.size_toArray] <;> omega)
  · obtain ⟨its, r', pl, hz⟩ := I.tuple hq
    have hlen := r'.length
    obtain ⟨o, ho, hc, n, hd⟩ := pl
    exact call_list_seq p (.inr rfl) ho hc hd (fun h' c' kp e => fin its r' hz h' c' kp e) (by simp only [List.size_toArray] <;> omega)

noncomputable def tyV (K : PySem.W.Frag) (T : String) (x : V) (H : Hp) : Prop := match x with
  | .str _ => T = "str"
  | .int _ => T = "int"
  | .ref p => (T = "list" ∧ ∃ xs, SqL K H p xs) ∨ (T = "tuple" ∧ ∃ o, K.lookup p = some o ∧ o.cls = .type "tuple" ∧ o.dict = none) ∨
      (T = "dict" ∧ ((∃ kvs, H p = some (.dK kvs)) ∨ ∃ kvs, H p = some (.dT kvs))) ∨ (T = "set" ∧ ∃ S n, H p = some (.set S n))
  | _ => False
theorem tyV_is {pins : List (Addr × Obj)} {σ : St} {H : Hp} {s : Shared} {T : String} {x : V} {v : Value} (I : Inv X pins σ H s) (r : RelV x v) (ty : tyV X.K T x H) :
    s.TypeIs v T ∧ ∀ a, v = .ref a → ∃ ob, s.heap.get? a = some ob ∧ ob.dict = none := by
  cases x with
  | str z =>
    obtain ⟨t, rfl⟩ := r
    cases (show T = "str" from ty)
    exact ⟨typeIs_str s z t, fun _ e => nomatch e⟩
  | int i =>
    obtain ⟨t, rfl⟩ := r
    cases (show T = "int" from ty)
    exact ⟨typeIs_int s i t, fun _ e => nomatch e⟩
  | ref p =>
    cases r
    rcases ty with ⟨rfl, xs, hq⟩ | ⟨rfl, o, hk, hc, hd⟩ | ⟨rfl, hk⟩ | ⟨rfl, S, n, hk⟩
    · obtain ⟨its, _, pl, _⟩ := I.list hq
      refine ⟨pl.isList.typeIs, fun a e => ?_⟩
      cases e
      obtain ⟨o, n, e, c, hd, _⟩ := pl
      exact ⟨o, e, hd⟩
    · refine ⟨⟨o, I.kIn p o hk, hc⟩, fun a e => ?_⟩
      cases e
      exact ⟨o, I.kIn _ o hk, hd⟩
    · have z : ∃ o, s.heap.get? p = some o ∧ o.ExactDict := by
        rcases hk with ⟨kvs, hk⟩ | ⟨kvs, hk⟩
        · obtain ⟨_, _, _, _, o, _, _, e, ex, _⟩ := I.hok p _ hk
          exact ⟨o, e, ex⟩
        · obtain ⟨_, _, _, _, o, _, _, e, ex, _⟩ := I.hok p _ hk
          exact ⟨o, e, ex⟩
      obtain ⟨o, e, ex⟩ := z
      refine ⟨⟨o, e, ex.1⟩, fun a e2 => ?_⟩
      cases e2
      exact ⟨o, e, ex.2.1⟩
    · obtain ⟨o, _, _, _, e, ex, _⟩ := I.hok p _ hk
      refine ⟨⟨o, e, ex.1⟩, fun a e2 => ?_⟩
      cases e2
      exact ⟨o, e, ex.2.1⟩
  | _ => exact False.elim ty
noncomputable def tBM0 (K : PySem.W.Frag) (T : String) (r : V → List V → Hp → VK → Prop) (to : TE) : TE := fun σ H Q => to σ H fun x H1 => tyV K T x H1 ∧ r x [] H1 Q
noncomputable def tBM (K : PySem.W.Frag) (T : String) (r : V → List V → Hp → VK → Prop) (to : TE) (t : TA) : TE := fun σ H Q => to σ H fun x H1 => tyV K T x H1 ∧ t σ H1 fun xs H2 => r x xs H2 Q
variable {o e : Expr} {es : List Expr} {to : TE} {t : TA} {name : Str} {apos cpos : Pos} {T id : String} {r : V → List V → Hp → VK → Prop}
theorem pe_bm0 (pa : PlainAttrs T) (slot : Slot T name id) (hty : typeOf (.builtin id) = pure (.type "method_descriptor")) (hm : MtR X id r) (ho : PE X o to)
    (hbase : attributeBase o name X.env (eval o X.env) = eval o X.env := by rfl) (hline : (apos.endLine == cpos.line) = true := by rfl) : PE X (.Call (.Attribute o name apos) [] [] cpos) (tBM0 X.K T r to) := by
  intro pins s σ H Q I h
  refine wpAny_Call_method0_late hbase hline (thn (ho pins s σ H _ I h) fun v s1 ⟨x, H1, I1, r1, ty, q1⟩ => ?_)
  obtain ⟨h1, h2⟩ := tyV_is I1 r1 ty
  exact ⟨T, id, pa, slot, hty, h1, h2, Calls.callWith_builtin rfl (PySem.evalArgs_none (hm pins s1 σ H1 x [] v [] Q I1 r1 .nil q1))⟩
theorem pe_bm (pa : PlainAttrs T) (slot : Slot T name id) (hty : typeOf (.builtin id) = pure (.type "method_descriptor")) (hm : MtR X id r) (ho : PE X o to) (ha : PA X (e :: es) t)
    (hbase : attributeBase o name X.env (eval o X.env) = eval o X.env := by rfl)
    (hfew : ((backTo cpos (starEach (e :: es) X.env)).all (fun x => !x.1) && (backToKw cpos (keywordEach [] X.env)).all (fun x => x.1.isSome)
      && decide ((e :: es).length + ([] : List Keyword).length + (if ([] : List Keyword).isEmpty then 0 else 1) < 30)) = true := by rfl)
    (hline : (apos.endLine == cpos.line) = true := by rfl) (hs : starEach (e :: es) X.env = (false, eval e X.env) :: starEach es X.env := by rfl) (hplain : (backTo cpos (starEach es X.env)).any (·.1) = false := by rfl) :
    PE X (.Call (.Attribute o name apos) (e :: es) [] cpos) (tBM X.K T r to t) := by
  intro pins s σ H Q I h
  refine wpAny_Call_method_late hbase hfew hline rfl (thn (ho pins s σ H _ I h) fun v s1 ⟨x, H1, I1, r1, ty, q1⟩ => ?_)
  obtain ⟨h1, h2⟩ := tyV_is I1 r1 ty
  refine ⟨T, id, pa, slot, hty, h1, h2, ?_⟩
  have hA := ha cpos pins s1 σ H1 _ I1 q1
  rw [hs] at hA ⊢
  refine Calls.callWith_builtin (by show (false || (backTo cpos (starEach es X.env)).any (·.1)) = false; rw [hplain] <;> rfl) (Calls.evalArgs_plain ?_)
  exact thn hA fun us s2 ⟨vs, H2, I2, r2, q2⟩ => hm pins s2 σ H2 x vs v us Q I2 r1 r2 q2
end
end L2

namespace L2
open PySem PySem.Spec PyProof.Rows

noncomputable def MtM (X : Cx) (id : String) (r : V → List V → Hp → VK → Prop) : Prop :=
  ∀ (pins : List (Addr × Obj)) (s : Shared) (σ : St) (H : Hp) (x : V) (xs : List V) (v : Value) (us : List Value) (Q : VK), Inv X pins σ H s → RelV x v → Vals xs us → r x xs H Q →
    wpAny (model X.prog X.w) X.A (call (.builtin id) (v :: us)) (EP X pins σ Q) X.xe s

theorem Vals.one : ∀ {x : V} {us : List Value}, Vals [x] us → ∃ u, us = [u] ∧ RelV x u
  | _, _, .cons r .nil => ⟨_, rfl, r⟩
theorem Vals.zero : ∀ {us : List Value}, Vals [] us → us = []
  | _, .nil => rfl
theorem Vals.dropLast {xs : List V} {us : List Value} (h : Vals xs us) : Vals xs.dropLast us.dropLast := by
  induction h with
  | nil => exact .nil
  | cons r t ih =>
    cases t with
    | nil => exact .nil
    | cons q t' => exact .cons r ih
theorem Vals.eraseIdx : ∀ {xs : List V} {us : List Value} (i : Nat), Vals xs us → Vals (xs.eraseIdx i) (us.eraseIdx i)
  | _, _, _, .nil => .nil
  | _, _, 0, .cons _ t => t
  | _, _, i + 1, .cons r t => .cons r (Vals.eraseIdx i t)
theorem Vals.reverse {xs : List V} {us : List Value} (h : Vals xs us) : Vals xs.reverse us.reverse := by
  induction h with
  | nil => exact .nil
  | cons r t ih => rw [List.reverse_cons, List.reverse_cons]; exact Vals.append ih (.cons r .nil)
theorem erase_last {α : Type} (l : List α) : l.eraseIdx (l.length - 1) = l.dropLast := by
  induction l with
  | nil => rfl
  | cons a r ih =>
    cases r with
    | nil => rfl
    | cons b r =>
      have e : (a :: b :: r).length - 1 = ((b :: r).length - 1) + 1 := by
        have h1 : (a :: b :: r).length = r.length + 2 := rfl
        have h2 : (b :: r).length = r.length + 1 := rfl
        omega
      rw [e, List.eraseIdx_cons_succ, ih]
      all_goals rfl
theorem len_erase {α : Type} : ∀ (l : List α) (i : Nat), (l.eraseIdx i).length ≤ l.length
  | [], _ => Nat.le_refl _
  | _ :: _, 0 => Nat.le_succ _
  | _ :: r, i + 1 => Nat.succ_le_succ (len_erase r i)

section
variable {X : Cx} {pins : List (Addr × Obj)} {σ : St} {H : Hp} {s : Shared} {l b : Addr} {xs ys zs : List V}

theorem Inv.lset {its its' : List Value} {n : Nat} {f : Array Value → Array Value} {t' : Nat} (I : Inv X pins σ H s) (hH : H l = some (.lst xs))
    (e : s.heap.get? l = some { cls := .type "list", data := .seq its.toArray n }) (hf : f its.toArray = its'.toArray) (hv : Vals ys its') (hz : ys.length ≤ sizeLine) :
    Inv X pins σ (upd H l (.lst ys)) { s with heap := s.heap.update l (Obj.mapSeq f), toks := t' } := by
  have q := PySem.IsL.update e f
  rw [hf] at q
  refine I.write (x := l) (e := l) (by rw [hH]; exact trivial) (.inl rfl) (fun b' u hb hu => (Heap.get?_update_other s.heap (Obj.mapSeq f) (Ne.symm hb)).trans hu) ⟨_, q⟩ ?_
  exact ⟨hz, its', _, hv, q⟩
theorem Inv.lnew {its : List Value} {t' : Nat} (I : Inv X pins σ H s) (hv : Vals ys its) (hz : ys.length ≤ sizeLine) :
    Inv X pins σ (upd H s.heap.objs.size (.lst ys)) { s with heap := s.heap.push { cls := .type "list", data := .seq its.toArray }, toks := t' } :=
  I.laid (fun _ _ q => Heap.get?_push_of_some _ q) (Nat.le_refl _) ⟨hz, its, 0, hv, Heap.get?_push_size _ rfl⟩
theorem Inv.fresh (I : Inv X pins σ H s) : H s.heap.objs.size = none := I.hok.fresh (Nat.le_refl _)
theorem Inv.lstM (I : Inv X pins σ H s) (hH : H l = some (.lst xs)) : xs.length ≤ sizeLine ∧ ∃ (its : List Value) (n : Nat), Vals xs its ∧ xs.length = its.length ∧ s.heap.get? l = some { cls := .type "list", data := .seq its.toArray n } := by
  obtain ⟨z, its, n, r, e⟩ := I.hok l _ hH
  exact ⟨z, its, n, r, r.length, e⟩

end

section
variable {X : Cx}

noncomputable def rAppend : V → List V → Hp → VK → Prop := fun x vs H Q => ∃ l xs y, x = .ref l ∧ vs = [y] ∧ H l = some (.lst xs) ∧ xs.length < sizeLine ∧ Q .non (upd H l (.lst (xs ++ [y])))
theorem mt_append : MtM X "list.append" rAppend := by
  intro pins s σ H x vs v us Q I rx rv h
  obtain ⟨l, xs, y, rfl, rfl, hH, hz, q⟩ := h
  cases rx
  obtain ⟨u, rfl, ru⟩ := rv.one
  obtain ⟨z, its, n, r, hl, e⟩ := I.lstM hH
  refine call_meets F.slot_list_append ⟨_, e, rfl⟩ F.entry_list_append (F.args_list_append_2 _ _) (PySem.list_append l its.toArray n u (by rw [List.size_toArray]; omega)) ⟨e, ?_⟩
  refine ⟨.non, _, I.lset (its' := its ++ [u]) hH e (by simp) (r.append (.cons ru .nil)) ?_, rfl, q⟩
  rw [List.length_append, List.length_singleton]
  omega


noncomputable def rPop : V → List V → Hp → VK → Prop := fun x vs H Q => ∃ l xs y, x = .ref l ∧ vs = [] ∧ H l = some (.lst xs) ∧ xs[xs.length - 1]? = some y ∧ Q y (upd H l (.lst xs.dropLast))
theorem mt_pop : MtM X "list.pop" rPop := by
  intro pins s σ H x vs v us Q I rx rv h
  obtain ⟨l, xs, y, rfl, rfl, hH, hy, q⟩ := h
  cases rx
  have hus := rv.zero
  subst hus
  obtain ⟨z, its, n, r, hl, e⟩ := I.lstM hH
  obtain ⟨u, hu, ru⟩ := r.get hy
  have hy' : its.toArray[its.toArray.size - 1]? = some u := by
    show its.toArray[its.length - 1]? = some u
    rw [← Array.getElem?_toList, ← hl]
    exact hu
  refine call_meets F.slot_list_pop ⟨_, e, rfl⟩ F.entry_list_pop (F.args_list_pop_1 _) (MeetsSeq.list_pop_last l its.toArray n u hy' (by rw [List.size_toArray]; omega)) ⟨e, ?_⟩
  refine ⟨y, _, I.lset (its' := its.dropLast) hH e ?_ r.dropLast ?_, ru, q⟩
  · show its.toArray.eraseIdxIfInBounds (its.toArray.size - 1) = its.dropLast.toArray
    rw [List.size_toArray, List.eraseIdxIfInBounds_toArray, erase_last]
  · rw [List.length_dropLast]
    omega

noncomputable def rPopAt : V → List V → Hp → VK → Prop := fun x vs H Q => ∃ l xs i k y, x = .ref l ∧ vs = [.int i] ∧ H l = some (.lst xs) ∧ -(2 ^ 63) ≤ i ∧ i < 2 ^ 63 ∧ seqIndex? i xs.length = some k ∧ xs[k]? = some y ∧ Q y (upd H l (.lst (xs.eraseIdx k)))
theorem mt_popAt : MtM X "list.pop" rPopAt := by
  intro pins s σ H x vs v us Q I rx rv h
  obtain ⟨l, xs, i, k, y, rfl, rfl, hH, h1, h2, hk, hy, q⟩ := h
  cases rx
  obtain ⟨u, rfl, ru⟩ := rv.one
  obtain ⟨t, rfl⟩ := ru
  obtain ⟨z, its, n, r, hl, e⟩ := I.lstM hH
  obtain ⟨w, hw, rw'⟩ := r.get hy
  refine call_meets F.slot_list_pop ⟨_, e, rfl⟩ F.entry_list_pop (F.args_list_pop_2 _ _)
    (MeetsSeq.list_pop_at l its.toArray n i t k w (fitsIndex_both h1 h2) (by rw [List.size_toArray, ← hl]; exact hk) (by rw [← Array.getElem?_toList]; exact hw) (by rw [List.size_toArray]; omega)) ⟨e, ?_⟩
  refine ⟨y, _, I.lset (its' := its.eraseIdx k) hH e ?_ (r.eraseIdx k) ?_, rw', q⟩
  · show its.toArray.eraseIdxIfInBounds k = (its.eraseIdx k).toArray
    rw [List.eraseIdxIfInBounds_toArray]
  · have := len_erase xs k
    omega



noncomputable def rCat : R2 := fun x y H Q => ∃ l b xs zs, x = .ref l ∧ y = .ref b ∧ H l = some (.lst xs) ∧ H b = some (.lst zs) ∧ xs.length + zs.length ≤ sizeLine ∧ ∀ p, H p = none → Q (.ref p) (upd H p (.lst (xs ++ zs)))
theorem op_cat : OpR X (binaryOp .Add) rCat := by
  intro pins s σ H x y v u Q I rx ry h
  obtain ⟨l, b, xs, zs, rfl, rfl, hH, hB, hz, q⟩ := h
  cases rx
  cases ry
  obtain ⟨z, its, n, r, hl, e⟩ := I.lstM hH
  obtain ⟨z2, its2, n2, r2, hl2, e2⟩ := I.lstM hB
  refine PySem.P.add_list e e2 ?_ (by rw [List.size_toArray, List.size_toArray]; omega)
  have ea : its.toArray ++ its2.toArray = (its ++ its2).toArray := by simp
  rw [ea]
  exact ⟨.ref _, _, I.lnew (t' := s.toks) (r.append r2) (by rw [List.length_append]; omega), rfl, q _ I.fresh⟩

end

section
variable {prog : Program} {w : World} {A : Around} {E : Value → Shared → Prop} {s : Shared}
end

section
variable {X : Cx}
end
end L2

namespace L2
open PySem PySem.Spec PyProof.Rows

section
variable {κ : Type} [DecidableEq κ]
noncomputable def valV (kvs : List (κ × V)) (k : κ) : Option V := (kvs.find? fun kv => decide (kv.1 = k)).map (·.2)
noncomputable def putK (kvs : List (κ × V)) (k : κ) (v : V) : List (κ × V) :=
  if (kvs.any fun kv => decide (kv.1 = k)) = true then kvs.map (fun kv => if kv.1 = k then (kv.1, v) else kv) else kvs ++ [(k, v)]

theorem valV_pos {p : κ × V} {r : List (κ × V)} {k : κ} (e : p.1 = k) : valV (p :: r) k = some p.2 := by simp [valV, List.find?_cons, e]
theorem valV_neg {p : κ × V} {r : List (κ × V)} {k : κ} (e : ¬ p.1 = k) : valV (p :: r) k = valV r k := by simp [valV, List.find?_cons, e]
theorem valV_any (k : κ) : ∀ kvs : List (κ × V), (kvs.any fun kv => decide (kv.1 = k)) = (valV kvs k).isSome
  | [] => rfl
  | p :: r => by
    rw [List.any_cons]
    by_cases e : p.1 = k
    · simp only [valV_pos e, decide_eq_true e, Bool.true_or, Option.isSome_some]
    · rw [valV_neg e, decide_eq_false e, Bool.false_or]; exact valV_any k r
theorem length_putK (kvs : List (κ × V)) (k : κ) (v : V) : (putK kvs k v).length ≤ kvs.length + 1 := by
  unfold putK
  split
  · rw [List.length_map]; omega
  · rw [List.length_append, List.length_cons, List.length_nil]; omega

theorem RelO.isSome_eq {o : Option V} {u : Option Value} (r : RelO o u) : o.isSome = u.isSome := by
  cases o with
  | none => cases u with
    | none => rfl
    | some _ => exact (show False from r).elim
  | some _ => cases u with
    | none => exact (show False from r).elim
    | some _ => rfl

theorem KV.val {kvs : List (κ × V)} {vs : List (κ × Value)} (r : KV kvs vs) (k : κ) : RelO (valV kvs k) (valueAt vs k) := by
  unfold KV at r
  induction r with
  | nil => exact True.intro
  | @cons p q ps qs h t ih =>
    obtain ⟨h1, h2⟩ := h
    by_cases e : p.1 = k
    · have e' : q.1 = k := h1.symm.trans e
      have b : valueAt (q :: qs) k = some q.2 := by simp [valueAt, List.find?_cons, e']
      rw [valV_pos e, b]; exact h2
    · have e' : ¬ q.1 = k := fun z => e (h1.trans z)
      have b : valueAt (q :: qs) k = valueAt qs k := by simp [valueAt, List.find?_cons, e']
      rw [valV_neg e, b]; exact ih
theorem KV.any {kvs : List (κ × V)} {vs : List (κ × Value)} (r : KV kvs vs) (k : κ) : (kvs.any fun kv => decide (kv.1 = k)) = vs.any fun kv => decide (kv.1 = k) := by
  unfold KV at r
  induction r with
  | nil => rfl
  | cons h t ih => rw [List.any_cons, List.any_cons, ih, h.1]
theorem KV.repl {kvs : List (κ × V)} {vs : List (κ × Value)} (r : KV kvs vs) (k : κ) {y : V} {u : Value} (ry : RelV y u) :
    KV (kvs.map fun kv => if kv.1 = k then (kv.1, y) else kv) (vs.map fun kv => if kv.1 = k then (kv.1, u) else kv) := by
  unfold KV at r ⊢
  induction r with
  | nil => exact .nil
  | @cons p q ps qs h t ih =>
    rw [List.map_cons, List.map_cons]
    refine .cons ?_ ih
    obtain ⟨h1, h2⟩ := h
    by_cases e : p.1 = k
    · rw [if_pos e, if_pos (h1.symm.trans e)]; exact ⟨h1, ry⟩
    · rw [if_neg e, if_neg (fun z => e (h1.trans z))]; exact ⟨h1, h2⟩
theorem KV.put {kvs : List (κ × V)} {vs : List (κ × Value)} (r : KV kvs vs) (k : κ) {y : V} {u : Value} (ry : RelV y u) : KV (putK kvs k y) (stored vs k u) := by
  unfold putK stored
  rw [r.any k]
  by_cases e : (vs.any fun kv => decide (kv.1 = k)) = true
  · rw [if_pos e, if_pos e]; exact r.repl k ry
  · rw [if_neg e, if_neg e]; exact Paired.snoc r ⟨rfl, ry⟩
theorem KV.length {kvs : List (κ × V)} {vs : List (κ × Value)} (r : KV kvs vs) : kvs.length = vs.length := Paired.length r
end


theorem kV_is {P : Program} {w : World} {k : Key} {u : Value} (r : RelV (kV k) u) : (mixKind P w).is k u = true := by
  cases k with
  | inl i => obtain ⟨t, e⟩ := (show ∃ t, u = Value.int i t from r); subst e; exact mixKind_int P w i t
  | inr x => obtain ⟨t, e⟩ := (show ∃ t, u = Value.str x t from r); subst e; exact mixKind_str P w x t
theorem items_are {P : Program} {w : World} : ∀ {ks : List Key} {us : List Value}, Vals (ks.map kV) us → ItemsAre (mixKind P w) ks us
  | [], _, r => by rw [List.map_nil] at r; cases r; exact .nil
  | k :: ks, _, r => by
    rw [List.map_cons] at r
    cases r with
    | cons h t => exact .cons (kV_is h) (items_are t)

abbrev KT (H : Hp) : List (List Key × V) → List (List Key × Addr × Value) → Prop := Paired fun p q => p.1 = q.1 ∧ H q.2.1 = some (.tup (p.1.map kV)) ∧ RelV p.2 q.2.2
theorem KT.val {H : Hp} {kvs : List (List Key × V)} {xs : List (List Key × Addr × Value)} (r : KT H kvs xs) (k : List Key) : RelO (valV kvs k) ((atKey xs k).map (·.2)) := by
  induction r with
  | nil => exact True.intro
  | @cons p q ps qs h t ih =>
    obtain ⟨h1, _, h2⟩ := h
    by_cases e : p.1 = k
    · have e' : q.1 = k := h1.symm.trans e
      have b : atKey (q :: qs) k = some q.2 := by simp [atKey, List.find?_cons, e']
      rw [valV_pos e, b]; exact h2
    · have e' : ¬ q.1 = k := fun z => e (h1.trans z)
      have b : atKey (q :: qs) k = atKey qs k := by simp [atKey, List.find?_cons, e']
      rw [valV_neg e, b]; exact ih
theorem KT.repl {H : Hp} {kvs : List (List Key × V)} {xs : List (List Key × Addr × Value)} (r : KT H kvs xs) (k : List Key) {y : V} {u : Value} (ry : RelV y u) :
    KT H (kvs.map fun kv => if kv.1 = k then (kv.1, y) else kv) (xs.map (putAt k u)) := by
  induction r with
  | nil => exact .nil
  | @cons p q ps qs h t ih =>
    rw [List.map_cons, List.map_cons]
    refine .cons ?_ ih
    obtain ⟨h1, h2, h3⟩ := h
    unfold putAt
    by_cases e : p.1 = k
    · rw [if_pos e, if_pos (h1.symm.trans e)]; exact ⟨h1, h2, ry⟩
    · rw [if_neg e, if_neg (fun z => e (h1.trans z))]; exact ⟨h1, h2, h3⟩
theorem KT.put {H : Hp} {kvs : List (List Key × V)} {xs : List (List Key × Addr × Value)} (r : KT H kvs xs) (k : List Key) {b : Addr} {y : V} {u : Value} (hb : H b = some (.tup (k.map kV))) (ry : RelV y u) :
    KT H (putK kvs k y) (storedH xs k b u) := by
  have e : (kvs.any fun kv => decide (kv.1 = k)) = (atKey xs k).isSome := by
    rw [valV_any, (r.val k).isSome_eq, Option.isSome_map]
  unfold putK storedH
  rw [e]
  by_cases q : (atKey xs k).isSome = true
  · rw [if_pos q, if_pos q]; exact r.repl k ry
  · rw [if_neg q, if_neg q]; exact Paired.snoc r ⟨rfl, hb, ry⟩
theorem KT.keeps {H H' : Hp} {kvs : List (List Key × V)} {xs : List (List Key × Addr × Value)} (r : KT H kvs xs) (ht : ∀ b ys, H b = some (.tup ys) → H' b = some (.tup ys)) : KT H' kvs xs :=
  Paired.mapP r fun _ _ z => ⟨z.1, ht _ _ z.2.1, z.2.2⟩

section
variable {P : Program} {w : World} {H : Hp} {h : Heap} {a : Addr}
theorem rd_of {u : HO} (ok : HOk P w H h) (e : Rd H a u) : ObjOk P w H h a u := e.ok ok
theorem dk_rd {kvs : List (Key × V)} (ok : HOk P w H h) (e : Rd H a (.dK kvs)) : kvs.length ≤ sizeLine ∧ (a == sysModules) = false ∧ ∃ vs, KV kvs vs ∧ h.DictOf (mixKind P w) a vs :=
  show ObjOk P w H h a (.dK kvs) from rd_of ok e
theorem dk_of {kvs : List (Key × V)} (ok : HOk P w H h) (e : H a = some (.dK kvs)) : kvs.length ≤ sizeLine ∧ (a == sysModules) = false ∧ ∃ vs, KV kvs vs ∧ h.DictOf (mixKind P w) a vs := dk_rd ok (.inl e)
theorem key_of {ks : List Key} (ok : HOk P w H h) (e : H a = some (.tup (ks.map kV))) : (tupleKind (mixKind P w)).is h ks a := by
  obtain ⟨_, its, r, o, h1, h2, n, h3⟩ := (show ObjOk P w H h a (.tup (ks.map kV)) from ok a _ e)
  exact ⟨o, its.toArray, n, h1, h2, h3, by simpa using items_are r⟩
theorem dt_rd {kvs : List (List Key × V)} (ok : HOk P w H h) (e : Rd H a (.dT kvs)) : kvs.length ≤ sizeLine ∧ (a == sysModules) = false ∧
    ∃ xs, KT H kvs xs ∧ h.DictOfH (tupleKind (mixKind P w)) a xs := by
  obtain ⟨z, y, xs, r, o, es, ep, h1, h2, h3, h4, h5⟩ := (show ObjOk P w H h a (.dT kvs) from rd_of ok e)
  refine ⟨z, y, xs, r, o, es, ep, h1, h2, h3, h4, fun x hx => ?_, h5⟩
  have all : ∀ {l : List (List Key × V)} {m : List (List Key × Addr × Value)}, KT H l m → ∀ x ∈ m, (tupleKind (mixKind P w)).is h x.1 x.2.1 := by
    intro l m q
    induction q with
    | nil => intro x hx; exact nomatch hx
    | @cons p q ps qs hq t ih =>
      intro x hx
      rcases List.mem_cons.mp hx with e | hx
      · subst e
        exact key_of ok (by rw [← hq.1]; exact hq.2.1)
      · exact ih x hx
  exact all r x hx
end

noncomputable def DGet (H : Hp) (a : Addr) (y : V) (r : Option V) : Prop :=
  (∃ kvs k, Rd H a (.dK kvs) ∧ y = kV k ∧ r = valV kvs k) ∨ ∃ kvs k b, Rd H a (.dT kvs) ∧ y = .ref b ∧ H b = some (.tup (k.map kV)) ∧ r = valV kvs k
theorem DGet.k {H : Hp} {a : Addr} {kvs : List (Key × V)} {k : Key} (e : H a = some (.dK kvs)) : DGet H a (kV k) (valV kvs k) := .inl ⟨kvs, k, .inl e, rfl, rfl⟩


section
variable {X : Cx} {pins : List (Addr × Obj)} {σ : St} {H : Hp} {s : Shared} {a : Addr} {y v : V} {u r : Value} {o : Option V} {A : Around} {E : Value → Shared → Prop}

theorem Inv.big (I : Inv X pins σ H s) : sysModules < s.heap.objs.size := by
  have h : mainGlobals < s.heap.objs.size := (I.mod.glob.keeps I.bk).lt
  exact Nat.lt_trans (by decide) h

theorem d_getItem {Q : Value → Shared → Prop} (hu : A.units + 1 < cLine) (I : Inv X pins σ H s) (g : DGet H a y (some v)) (ry : RelV y u) (h : ∀ w' s', Inv X pins σ H s' → RelV v w' → Q w' s') :
    wpAny (model X.prog X.w) A (getItem (.ref a) u) Q E s := by
  rcases g with ⟨kvs, k, e, ey, l⟩ | ⟨kvs, k, b, e, ey, eb, l⟩
  · subst ey
    obtain ⟨z, hd, vs, rel, dd⟩ := dk_rd I.hok e
    obtain ⟨w', hw, rw'⟩ := RelO.some_of (v := v) (o := valueAt vs k) (by rw [l]; exact rel.val k)
    exact wpAny_getItem_of (kV_is ry) dd.mapOf hw (h w' _ (I.tok _) rw')
  · subst ey
    cases (show u = Value.ref b from ry)
    obtain ⟨z, hd, xs, rel, dd⟩ := dt_rd I.hok e
    obtain ⟨w', hw, rw'⟩ := RelO.some_of (v := v) (o := (atKey xs k).map (·.2)) (by rw [l]; exact rel.val k)
    obtain ⟨p, hp, hp2⟩ := Option.map_eq_some_iff.mp hw
    refine wpAny_getItem_heap (tupleKind_room_in1 hu) (key_of I.hok eb) dd hp ?_
    rw [hp2]
    exact h w' _ (I.tok _) rw'
theorem d_write {h' : Heap} {t' : Nat} {ob : HO} (I : Inv X pins σ H s) (mu : Mut (H a)) (hs : Heap.SameBut a s.heap h') (he : ∃ q, h'.get? a = some q) (new : ObjOk X.prog X.w (upd H a ob) h' a ob) :
    Inv X pins σ (upd H a ob) { s with heap := h', toks := t' } :=
  I.write (x := a) (e := a) mu (.inl rfl) (fun b q hb z => (hs.2 b hb).trans z) he new
theorem dk_new {P : Program} {w : World} {H' : Hp} {h' : Heap} {kvs : List (Key × V)} {vs : List (Key × Value)} (z : kvs.length ≤ sizeLine) (hd : (a == sysModules) = false) (rel : KV kvs vs) (dd : h'.DictOf (mixKind P w) a vs) :
    ObjOk P w H' h' a (.dK kvs) := ⟨z, hd, vs, rel, dd⟩
end

section
variable {X : Cx} {pins : List (Addr × Obj)} {σ : St} {H : Hp} {s : Shared} {a : Addr} {kvs : List (Key × V)} {k : Key} {u : Value} {A : Around} {E : Value → Shared → Prop}
end


noncomputable def NoSl (i : Expr) : Prop := ∀ ov iv, subscripted i false ov iv = operate [ov, iv] (getItem ov iv)
theorem subD_of {prog : Program} {w : World} {A : Around} {E : Value → Shared → Prop} {s : Shared} {env : Env} {value slice : Expr} {pos : Pos} {T id : String} {Q : Value → Shared → Prop}
    (hl : typeLookup (.type T) "__getitem__" = pure (some (.builtin id))) (hs : NoSl slice)
    (h : wpAny (model prog w) A (eval value env) (fun o s₁ => wpAny (model prog w) A (eval slice env) (fun i s₂ => s₂.TypeIs o T ∧ wpAny (model prog w) A (getItem o i) Q E s₂) E s₁) E s) :
    wpAny (model prog w) A (eval (.Subscript value slice pos) env) Q E s := by
  refine Subscript_ (wpAny_mono h (fun o s₁ h₁ => wpAny_mono h₁ (fun i s₂ h₂ => ?_) fun _ _ x => x) fun _ _ x => x)
  obtain ⟨hT, h₂⟩ := h₂
  unfold subscriptTail
  refine wpAny_bind ?_
  rw [getitemInPython_of_ne hT.not_modules]
  refine wpAny_bind (wpAny_specialOf hT hl ?_)
  have fin : wpAny (model prog w) A (subscripted slice false o i) (fun r s₃ => wpAny (model prog w) A (letTemporaryGo value o r >>= fun _ => pure r) Q E s₃) E s₂ := by
    rw [hs o i]
    exact wpAny_operating (wpAny_mono h₂ (fun r s₃ h₃ => wpAny_bind (wpAny_letTemporaryGo (wpAny_pure h₃))) fun _ _ x => x)
  first
    | exact wpAny_pure (wpAny_bind fin)
    | exact wpAny_bind (wpAny_pure (wpAny_bind fin))
    | exact wpAny_bind fin

theorem dict_typeIs {X : Cx} {pins : List (Addr × Obj)} {σ : St} {H : Hp} {s : Shared} {a : Addr} {y : V} {o : Option V} (I : Inv X pins σ H s) (g : DGet H a y o) : s.TypeIs (.ref a) "dict" := by
  rcases g with ⟨kvs, k, e, _, _⟩ | ⟨kvs, k, b, e, _, _, _⟩
  · obtain ⟨_, _, vs, _, dd⟩ := dk_rd I.hok e
    exact dd.typeIs
  · obtain ⟨_, _, xs, _, dd⟩ := dt_rd I.hok e
    exact dd.typeIs

noncomputable def tDGet (td ty : TE) : TE := fun σ H Q => td σ H fun x H1 => ty σ H1 fun y H2 => ∃ a v, x = .ref a ∧ DGet H2 a y (some v) ∧ Q v H2

section
variable {X : Cx} {o i e value : Expr} {pos pos' tpos : Pos} {td ty tv : TE}
theorem pe_dget (hu : X.A.units + 1 < cLine) (ho : PE X o td) (hi : PE X i ty) (hs : NoSl i) : PE X (.Subscript o i pos) (tDGet td ty) := by
  intro pins s σ H Q I h
  refine subD_of PySem.F.slot_dict_getitem.lookup hs (thn (ho pins s σ H _ I h) fun u s1 ⟨x, H1, I1, rx, q1⟩ => thn (hi pins s1 σ H1 _ I1 q1) fun iv s2 ⟨y, H2, I2, ry, a, v, ex, g, q2⟩ => ?_)
  subst ex
  obtain rfl : u = Value.ref a := rx
  exact ⟨dict_typeIs I2 g, d_getItem hu I2 g ry fun w' s3 I3 rw' => ⟨v, H2, I3, rw', q2⟩⟩
end


theorem dk_empty {P : Program} {w : World} {H : Hp} (h : Heap) (hb : sysModules < h.objs.size) : ObjOk P w H (h.push { cls := .type "dict", data := .dict #[] }) h.objs.size (.dK []) :=
  ⟨Nat.zero_le _, beq_eq_false_iff_ne.mpr (Ne.symm (Nat.ne_of_lt hb)), [], .nil, Heap.DictOf.new h⟩
section
variable {X : Cx} {pos : Pos}
end

noncomputable def tPairs : List (TE × TE) → St → Hp → (List (V × V) → Hp → Prop) → Prop
  | [], _, H, Q => Q [] H
  | (tk, tv) :: r, σ, H, Q => tk σ H fun x H1 => tv σ H1 fun y H2 => tPairs r σ H2 fun ps H3 => Q ((x, y) :: ps) H3
abbrev VV : List (V × V) → List (Value × Value) → Prop := Paired fun p q => RelV p.1 q.1 ∧ RelV p.2 q.2
noncomputable def PPs (X : Cx) (pos : Pos) (keys : List (Option Expr)) (values : List Expr) (trs : List (TE × TE)) : Prop :=
  ∀ (pins : List (Addr × Obj)) (s : Shared) (σ : St) (H : Hp) (Q : List (V × V) → Hp → Prop), Inv X pins σ H s → tPairs trs σ H Q →
    wpAny (model X.prog X.w) X.A (evalPairs (pairTrees keys values X.env pos)) (fun vs s' => ∃ ps H', Inv X pins σ H' s' ∧ VV ps vs ∧ Q ps H') X.xe s
theorem pps_nil {X : Cx} {pos : Pos} : PPs X pos [] [] [] := fun pins s σ H Q I h => pairTrees_nil_walk ⟨[], H, I, .nil, h⟩
theorem pps_cons {X : Cx} {pos : Pos} {k v : Expr} {ks : List (Option Expr)} {vs : List Expr} {tk tv : TE} {trs : List (TE × TE)} (hk : PE X k tk) (hv : PE X v tv) (hr : PPs X pos ks vs trs) :
    PPs X pos (some k :: ks) (v :: vs) ((tk, tv) :: trs) := fun pins s σ H Q I h =>
  pairTrees_cons_walk (thn (hk pins s σ H _ I h) fun u s1 ⟨x, H1, I1, rx, q1⟩ => thn (hv pins s1 σ H1 _ I1 q1) fun w2 s2 ⟨y, H2, I2, ry, q2⟩ =>
    thn (hr pins s2 σ H2 _ I2 q2) fun ws s3 ⟨ps, H3, I3, rel, q3⟩ => ⟨(x, y) :: ps, H3, I3, .cons ⟨rx, ry⟩ rel, q3⟩)

noncomputable def mergeK (kvs more : List (Key × V)) : List (Key × V) := more.foldl (fun acc kv => putK acc kv.1 kv.2) kvs
theorem KV.merge : ∀ {more : List (Key × V)} {rs : List (Key × Value)} {kvs : List (Key × V)} {vs : List (Key × Value)}, KV more rs → KV kvs vs → KV (mergeK kvs more) (merged vs rs) := by
  intro more rs kvs vs r
  unfold KV at r
  induction r generalizing kvs vs with
  | nil => intro q; exact q
  | @cons p q ps qs h t ih =>
    intro r0
    have e : KV (putK kvs p.1 p.2) (stored vs q.1 q.2) := by
      have := r0.put p.1 h.2
      rw [← h.1]; exact this
    exact ih e
theorem length_mergeK : ∀ (more kvs : List (Key × V)), (mergeK kvs more).length ≤ kvs.length + more.length
  | [], kvs => by show kvs.length ≤ kvs.length + 0; omega
  | p :: r, kvs => by
    have h1 := length_mergeK r (putK kvs p.1 p.2)
    have h2 := length_putK kvs p.1 p.2
    show (mergeK (putK kvs p.1 p.2) r).length ≤ _
    rw [List.length_cons]; omega
theorem carries_of {P : Program} {w : World} : ∀ {kvs : List (Key × V)} {ws : List (Value × Value)}, VV (kvs.map fun kv => (kV kv.1, kv.2)) ws → ∃ rs, Carries (mixKind P w) ws rs ∧ KV kvs rs
  | [], _, r => by rw [List.map_nil] at r; cases r; exact ⟨[], True.intro, .nil⟩
  | p :: kvs, _, r => by
    rw [List.map_cons] at r
    cases r with
    | @cons a b as bs h t =>
      obtain ⟨rs, c, q⟩ := carries_of (P := P) (w := w) t
      obtain ⟨b1, b2⟩ := b
      exact ⟨(p.1, b2) :: rs, ⟨kV_is h.1, rfl, c⟩, .cons ⟨rfl, h.2⟩ q⟩
noncomputable def tDisp (trs : List (TE × TE)) : TE := fun σ H Q => ∀ p, H p = none → tPairs trs σ (upd H p (.dK [])) fun ps H2 => H2 p = some (.dK []) ∧ ∃ kvs : List (Key × V), ps = kvs.map (fun kv => (kV kv.1, kv.2)) ∧ kvs.length ≤ 15 ∧ Q (.ref p) (upd H2 p (.dK (mergeK [] kvs)))
theorem pe_disp {X : Cx} {pos : Pos} {keys : List (Option Expr)} {values : List Expr} {trs : List (TE × TE)} (h : PPs X pos keys values trs) (hall : keys.all (·.isSome) = true) (hl : keys.length = values.length) (h0 : keys ≠ [])
    (h15 : keys.length ≤ 15) : PE X (.Dict keys values pos) (tDisp trs) := by
  intro pins s σ H Q I q
  have hn := I.hok.fresh (Nat.le_refl s.heap.objs.size)
  have I1 := I.laid (a := s.heap.objs.size) (o := .dK []) (h' := s.heap.push { cls := .type "dict", data := .dict #[] }) (t' := s.toks) (fun _ _ q => Heap.get?_push_of_some _ q) (Nat.le_refl _) (dk_empty s.heap I.big)
  refine wpAny_Dict_walk (knd := mixKind X.prog X.w) hall hl h0 h15 (thn (h pins _ σ _ _ I1 (q _ hn)) fun ws s2 ⟨ps, H2, I2, rel, e, kvs, ep, lk, q2⟩ => ?_)
  subst ep
  obtain ⟨rs, c, rk⟩ := carries_of (P := X.prog) (w := X.w) rel
  obtain ⟨z, hd, vs0, r0, dd⟩ := dk_of I2.hok e
  cases r0
  refine ⟨rs, c, dd, fun h' dd' hs => ⟨.ref s.heap.objs.size, _, ?_, rfl, q2⟩⟩
  have hz : (mergeK [] kvs).length ≤ sizeLine := by
    have h1 := length_mergeK kvs []
    rw [List.length_nil] at h1
    rw [sizeLine_eq]; omega
  have he : ∃ q, h'.get? s.heap.objs.size = some q := let ⟨q, _, _, hq, _⟩ := dd'; ⟨q, hq⟩
  exact d_write I2 (by rw [e]; exact True.intro) hs he (dk_new hz hd (rk.merge .nil) dd')


structure M1 (X : Cx) (o : Expr) (m : Str) (apos : Pos) (e : Expr) (cpos : Pos) : Prop where
  base : attributeBase o m X.env (eval o X.env) = eval o X.env
  few : ((backTo cpos (starEach [e] X.env)).all (fun x => !x.1) && (backToKw cpos (keywordEach [] X.env)).all (fun x => x.1.isSome)
    && decide (([e] : List Expr).length + ([] : List Keyword).length + (if ([] : List Keyword).isEmpty then 0 else 1) < 30)) = true
  line : (apos.endLine == cpos.line) = true
  trees : backTo cpos (starEach [e] X.env) = [(false, eval e X.env)]
structure M2 (X : Cx) (o : Expr) (m : Str) (apos : Pos) (e f : Expr) (cpos : Pos) : Prop where
  base : attributeBase o m X.env (eval o X.env) = eval o X.env
  few : ((backTo cpos (starEach [e, f] X.env)).all (fun x => !x.1) && (backToKw cpos (keywordEach [] X.env)).all (fun x => x.1.isSome)
    && decide (([e, f] : List Expr).length + ([] : List Keyword).length + (if ([] : List Keyword).isEmpty then 0 else 1) < 30)) = true
  line : (apos.endLine == cpos.line) = true
  trees : backTo cpos (starEach [e, f] X.env) = [(false, eval e X.env), (false, eval f X.env)]


section
variable {X : Cx} {pins : List (Addr × Obj)} {σ : St} {H : Hp} {s : Shared} {a : Addr} {y d : V} {u r : Value} {o : Option V} {A : Around} {E : Value → Shared → Prop}
end

section
variable {X : Cx} {o e f : Expr} {apos cpos : Pos} {td ty tx : TE}
end

section
variable {X : Cx} {pins : List (Addr × Obj)} {σ : St} {H : Hp} {s : Shared} {a : Addr} {kvs : List (Key × V)} {A : Around} {E : Value → Shared → Prop}
end


section
variable {X : Cx} {pins : List (Addr × Obj)} {σ : St} {H : Hp} {s : Shared} {a : Addr} {y : V} {u : Value} {A : Around} {E : Value → Shared → Prop}
end
end L2

namespace Att
open PySem PySem.W PySem.Calls PyProof.Rows

theorem ints_of_wellAll {P : Params} {h : Heap} : ∀ (ns : List Int) (vs : List Value), WellAll P h vs (ns.map WData.int) → IntsAre vs ns := by
  intro ns
  induction ns with
  | nil =>
    intro vs w
    rw [List.map_nil] at w
    cases w
    exact .nil
  | cons n ns ih =>
    intro vs w
    rw [List.map_cons] at w
    cases w with
    | cons a b =>
      cases a
      exact .cons _ _ (ih _ b)

theorem script_of {l : OpenLaw} {n : Nat} (hn : l.most = some n) {P : Params} {h : Heap} {args : List WData} {vals : List Value}
    (hpre : l.row.toRowW.claim.pre args = true) (hwl : WellAll P h vals args) :
    ∃ a vs ns, vals = [Value.ref a] ∧ args = [WData.list (ns.map WData.int)] ∧ h.get? a = some { cls := .type "list", data := .seq vs.toArray } ∧ IntsAre vs ns ∧ ns.length ≤ n := by
  have hsh : WShape.hasAll [] args [.list .int] = true := (pre_splitW hpre).1
  have hc : l.pre.holds [] { args := args } = true := (pre_splitW hpre).2
  obtain ⟨d, r, rfl, h1, h2⟩ := hasAllW_cons hsh
  obtain rfl := hasAllW_nil h2
  obtain ⟨xs, rfl, h3⟩ := hasW_list h1
  obtain ⟨ns, rfl⟩ := items_int h3
  have hlen : ns.length ≤ n := by
    unfold OpenLaw.pre at hc
    have h4 : (WTm.not (.lt (.lit (.int (n : Int))) (.len (.arg 0)))).holds [] { args := [.list (ns.map .int)] } = true := by
      have h4 := (holds_andW hc).1
      rw [hn] at h4
      exact h4
    have h5 := condW_of h4 (w_not (w_lt w_lit (w_len_list (w_arg rfl))))
    rw [List.length_map] at h5
    refine Nat.le_of_not_lt fun q => ?_
    have q' : (n : Int) < ((ns.length : Nat) : Int) := by omega
    first
      | (rw [decide_eq_true q'] at h5; exact absurd h5 (by decide))
      | (simp at h5; omega)
  cases hwl with
  | cons w1 w2 =>
    cases w2
    cases w1 with
    | list ho hall => exact ⟨_, _, ns, rfl, rfl, ho, ints_of_wellAll ns _ hall, hlen⟩

theorem post_true (l : OpenLaw) (args : List WData) : l.row.toRowW.claim.post args (.bool true) args = true :=
  postW_of (r := l.row.toRowW) (X := (true == true))
    (show WShape.has [] (.bool true) .bool = true by first | rfl | decide | simp [WShape.has, WShape.arms, WShape.armsAll])
    (show (WTm.eq .res (.lit (.bool true))).value [] { args := args, res := some (.bool true), after := args } = some (.bool (true == true)) from w_eq_bool (w_res rfl) w_lit) rfl


theorem attach_call {l : OpenLaw} {n : Nat} {q : Program} {loose : List Str} {XP : (Str → Option Value) → Heap → Prop} {YP : World → Heap → Prop} {d : DefRec}
    (hn : l.most = some n) (hdf : d.params.defaults = [])
    (call : ∀ (w : World) (s₀ s₁ : Shared) (mg mb : Str → Option Value) (fa : Addr) (o : Obj) (pm cd doc : Value) (a : Addr) (vs : List Value) (ns : List Int),
      Ground q loose [] XP w s₀ mg mb s₁.heap → YP w s₁.heap →
      s₁.heap.get? fa = some o → o.data = .func (docDef d.name d.params d.body d.scope pm cd doc) → s₁.heap.CodeRec cd d.name → mg d.name = some (.ref fa) →
      s₁.heap.get? a = some { cls := .type "list", data := .seq vs.toArray } → IntsAre vs ns → ns.length ≤ n → s₁.gens = #[] →
      codeAny (model l.prog w) callerA (.call (.ref fa) ⟨[.ref a], []⟩) (fun r s' => r = .ok (.ret (.bool true)) ∧ OldK s₁.heap s'.heap ∧ s'.os = s₁.os ∧ AllBare s'.gens) s₁) :
    WalkO q loose XP YP l.row.toRowW d [] (fun f vs => PySem.call f vs) := by
  intro w s₀ s₁ mg mb G Y fa o pm cd doc dV kV ho hd hcd hD hmg hg args vals as hpre hlay hrd hwl hlo
  obtain rfl : dV = .none := Dflts.none hD hdf
  obtain rfl : kV = .none := Dflts.noKw hD
  obtain ⟨a, vs, ns, rfl, rfl, hobj, hints, hlen⟩ := script_of hn hpre hwl
  refine enter_call (codeAny_mono (call w s₀ s₁ mg mb fa o pm cd doc a vs ns G Y ho (fd_plain hd) hcd hmg hobj hints hlen hg) fun r s' hq => ?_)
  obtain ⟨rfl, h2, h3, h4⟩ := hq
  exact ⟨.inl ⟨.bool true, .bool true, [], rfl, fun _ => rfl, .bool true, post_true l _, fun _ => ⟨List.Pairwise.nil, fun _ hm => (nomatch hm)⟩⟩, h2, h3, h4⟩


section
variable {prog : Program} {w : World} {A : Around} {E : Value → Shared → Prop} {s : Shared} {K : Frag}






end
end Att

namespace L2
open PySem PySem.Spec PyProof.Rows

theorem vals_ints : ∀ {vs : List Value} {ns : List Int}, IntsAre vs ns → Vals (ns.map V.int) vs
  | _, _, .nil => .nil
  | _, _, .cons n t h => .cons ⟨t, rfl⟩ (vals_ints h)

noncomputable def Only (H : Hp) : Prop := ∀ b, H b = none ∨ ∃ o xs, H b = some (.frz o (.lst xs))

theorem law_call {P : Program} {w : World} {K : PySem.W.Frag} {mg mb : Str → Option Value} {CX : CXT} {k : Nat} {fa a : Addr} {fd : FuncData} {x : Str} {sp : Sp} {s₁ : Shared} {vs : List Value} {ns : List Int}
    (KX : K.In s₁.heap) (hns : s₁.heap.Ns mainGlobals mg) (hb : s₁.heap.Ns builtinsNs mb) (hbb : ∀ x : Str, x ≠ "__name__" → mb x = bootBuiltins x) (hlim : s₁.heap.NoLimit) (hg : s₁.gens = #[])
    (ha : s₁.heap.get? a = some { cls := .type "list", data := .seq vs.toArray }) (hi : IntsAre vs ns) (hl : ns.length ≤ sizeLine) (hr : Room k callerA)
    (F : ∀ base : Heap, K.In base → base.Ns mainGlobals mg → FnOk P w K mg base CX k fa fd [x] sp) (hbind : ∀ (s : Shared) (u : Value), BindsTo s fd ⟨[u], []⟩ [(x, u)])
    (hsp : ∀ H : Hp, Only H → SqL K H a (ns.map V.int) → sp [.ref a] H (fun v _ => v = .bl true) fun _ _ _ => False)
    (hCX : ∀ H e s', CX [] H s₁ (fun _ _ _ => False) e s' → False) :
    codeAny (model P w) callerA (.call (.ref fa) ⟨[.ref a], []⟩) (fun r s' => r = .ok (.ret (.bool true)) ∧ OldK s₁.heap s'.heap ∧ s'.os = s₁.os ∧ AllBare s'.gens) s₁ := by
  have rv := vals_ints hi
  have lenV := hi.length
  -- from an abstract heap in which nothing but the script may be tracked
  have core : ∀ H : Hp, Only H → SqL K H a (ns.map V.int) → HOk P w H s₁.heap → (∀ b, H b ≠ none → b = a) → (H a ≠ none → K.lookup a = none) →
      codeAny (model P w) callerA (.call (.ref fa) ⟨[.ref a], []⟩) (fun r s' => r = .ok (.ret (.bool true)) ∧ OldK s₁.heap s'.heap ∧ s'.os = s₁.os ∧ AllBare s'.gens) s₁ := by
    intro H hO hS hok hA hK
    have base_of : ∀ {b : Addr} {o : Obj}, s₁.heap.get? b = some o → H b = none → (hidT s₁.heap H).get? b = some o := fun e n => hidT_get e n
    have noA : ∀ {b : Addr} {o : Obj} {es : Array DictEntry} {ep : Nat}, s₁.heap.get? b = some o → o.data = .dict es ep → H b = none := fun {b o es ep} e d => by
      cases q : H b with
      | none => rfl
      | some u =>
        have e' : b = a := hA b (by rw [q]; simp)
        subst e'
        rw [ha] at e; cases e
        have d' : Data.seq vs.toArray _ = Data.dict es ep := d
        cases d'
    have nsK : ∀ {b : Addr} {m : Str → Option Value}, s₁.heap.Ns b m → (hidT s₁.heap H).Ns b m := fun {b m} ⟨o, es, ep, e, d, r⟩ => ⟨o, es, ep, base_of e (noA e d), d, r⟩
    have hKb : K.In (hidT s₁.heap H) := fun b o e => base_of (KX b o e) (by
      cases q : H b with
      | none => rfl
      | some u =>
        have e' : b = a := hA b (by rw [q]; simp)
        subst e'
        rw [hK (by rw [q]; simp)] at e; cases e)
    have hM : Mod K mg (hidT s₁.heap H) := ⟨hKb, nsK hns, ⟨mb, nsK hb, hbb⟩, let ⟨mc, h1, h2⟩ := hlim; ⟨mc, nsK h1, h2⟩⟩
    have e0 : Env0 P w K mg (hidT s₁.heap H) callerA [] s₁ H := ⟨rfl, hM, fun b o e => of_hidT e, Nat.le_of_eq (hidT_size _ _), trivial, fun b hb => absurd (show b ∈ ([] : List Addr) from hb) (by simp), hok, .of_eq hg⟩
    refine codeAny_mono ((F _ hKb (nsK hns)).run callerA [] s₁ H ⟨[.ref a], []⟩ [.ref a] [.ref a] _ _ hr e0 (hbind s₁ (.ref a)) (.cons rfl .nil) (hsp H hO hS)) fun r s' h => ?_
    cases r with
    | error e => exact (hCX H e s' h).elim
    | ok fl =>
      cases fl with
      | next => exact False.elim h
      | brk => exact False.elim h
      | cont => exact False.elim h
      | ret u =>
        obtain ⟨v, H', os, bare, un, hok', r', q⟩ := h
        have q' : v = .bl true := q
        subst q'
        obtain rfl : u = Value.bool true := r'
        refine ⟨rfl, OldK.of_keep fun b o e => ?_, os, bare⟩
        cases q : H b with
        | none => exact un.keep b o e q (by intro z; exact absurd (show b ∈ ([] : List Addr) from z) (by simp)) (by simp)
        | some u =>
          rcases hO b with z | ⟨ob, xs, z⟩
          · rw [q] at z; cases z
          · have z2 := un.frzs b ob _ z
            obtain ⟨e1, _⟩ := hok b _ z
            obtain ⟨e2, _⟩ := hok' b _ z2
            rw [e] at e1; cases e1
            exact e2
  cases hk : K.lookup a with
  | some o =>
    -- the script is one of the module's own objects
    have e := KX a o hk
    rw [ha] at e
    cases e
    refine core (fun _ => none) (fun _ => .inl rfl) (.inr ⟨_, vs.toArray, _, hk, rfl, rfl, rfl, by rw [List.size_toArray, lenV]; exact hl, by simpa using rv⟩) (fun b u z => by have z' : (none : Option HO) = some u := z; cases z') (fun b z => absurd rfl z) fun z => absurd rfl z
  | none =>
    refine core (fun b => if b = a then some (.frz { cls := .type "list", data := .seq vs.toArray } (.lst (ns.map V.int))) else none) (fun b => ?_) (.inl (.inr ⟨{ cls := .type "list", data := .seq vs.toArray }, if_pos rfl⟩)) (fun b u z => ?_) (fun b z => ?_) fun _ => hk
    · by_cases hb : b = a
      · exact .inr ⟨_, _, if_pos hb⟩
      · exact .inl (if_neg hb)
    · by_cases hb : b = a
      · have z' := (if_pos hb).symm.trans z
        cases z'
        subst hb
        exact ⟨ha, by rw [List.length_map]; exact hl, vs, _, rv, ha⟩
      · have z' := (if_neg hb).symm.trans z
        cases z'
    · by_cases hb : b = a
      · exact hb
      · exact absurd (if_neg hb) z
end L2

namespace L2
open PySem PySem.Spec PyProof.Rows


theorem walk_of {l : PySem.W.OpenLaw} {n k : Nat} {q : Program} {loose : List Str} {XP : (Str → Option Value) → Heap → Prop} {YP : World → Heap → Prop} {d : DefRec} {K : Params → PySem.W.Frag} {CX : World → CXT} {sp : World → Sp} {x : Str}
    (hn : l.most = some n) (hn2 : n ≤ sizeLine) (hdf : d.params.defaults = []) (hr : Room k callerA)
    (hY : ∀ (w : World) (h : Heap), YP w h → (K w.params).In h)
    (F : ∀ (w : World) (mg : Str → Option Value) (fa : Addr) (h : Heap), (K w.params).In h → h.Ns mainGlobals mg → mg d.name = some (.ref fa) →
      ∃ fd : FuncData, (∀ (s : Shared) (u : Value), BindsTo s fd ⟨[u], []⟩ [(x, u)]) ∧
        ∀ base : Heap, (K w.params).In base → base.Ns mainGlobals mg → FnOk l.prog w (K w.params) mg base (CX w) k fa fd [x] (sp w))
    (hsp : ∀ (w : World) (H : Hp) (a : Addr) (ns : List Int), ns.length ≤ n → Only H → SqL (K w.params) H a (ns.map V.int) → sp w [.ref a] H (fun v _ => v = .bl true) fun _ _ _ => False)
    (hCX : ∀ (w : World) (H : Hp) (s : Shared) (e : Value) (s' : Shared), CX w [] H s (fun _ _ _ => False) e s' → False) :
    PySem.W.WalkO q loose XP YP l.row.toRowW d [] (fun f vs => PySem.call f vs) := by
  refine Att.attach_call hn hdf fun w s₀ s₁ mg mb fa o pm cd doc a vs ns G Y ho hd hcd hmg hobj hints hlen hg => ?_
  have KX := hY w _ Y
  obtain ⟨fd, hb, hF⟩ := F w mg fa _ KX G.T.g hmg
  exact law_call KX G.T.g G.T.b G.T.builtins G.T.nolimit hg hobj hints (Nat.le_trans hlen hn2) hr hF hb (fun H hO hS => hsp w H a ns hlen hO hS) fun H e s' => hCX w H s₁ e s'
end L2

/- THE LAST THEOREM (shape; LID, My.* are yours):
   My.Adr: a structure of the addresses that your layer names (classes, functions); My.Txt K t: a structure (Prop) of the equations over K;
   My.txt_mk : {K} {implicit addresses ..} (e1 : nsIn K mainGlobals "law" = some (some (.ref f))) (e2 : K.lookup f = some ⟨oc, od, .func (fnOf "law" "law" params body scope dV kV doc pm an cdv ct), sl⟩) (e3 : codeIn K cdv "law" = true) .. : ∃ t, My.Txt K t

(the tactic k_is has no namespace: write k_is) -/

namespace L2
open PySem PySem.Spec PyProof.Rows

noncomputable def defArgs (s : Stmt) : Arguments := match s with
  | .FunctionDef _ a _ _ _ _ _ _ _ _ => a
  | _ => { posonlyargs := [], args := [], vararg := none, kwonlyargs := [], kw_defaults := [], kwarg := none, defaults := [] }
noncomputable def defBody (s : Stmt) : List Stmt := match s with
  | .FunctionDef _ _ b _ _ _ _ _ _ _ => b
  | _ => []
noncomputable def defScope (s : Stmt) : Scope := match s with
  | .FunctionDef _ _ _ _ _ _ sc _ _ _ => sc
  | _ => { kind := .function, names := [], isGenerator := false, isCoroutine := false }

abbrev CX0 : CXT := fun _ _ _ _ _ _ => False
abbrev E0 : XK := fun _ _ _ => False
theorem pass0 {X : Cx} : Passes CX0 X E0 := fun _ _ _ _ _ _ _ h => h.elim

structure Fun (K : PySem.W.Frag) (x qual : Str) (st : Stmt) (f : Addr) (fd : FuncData) : Prop where
  ex : ∃ (oc : Value) (od : Option Addr) (kV doc pm : Value) (an : Option Addr) (cdv ct : Value) (osl : Array (Option Value)),
    fd = PySem.W.fnOf x qual (defArgs st) (defBody st) (defScope st) .none kV doc pm an cdv ct ∧ K.lookup f = some ⟨oc, od, .func fd, osl⟩ ∧ PySem.W.codeIn K cdv qual = true
  kp : PySem.W.keepIn K (.ref f) = true
section
variable {P : Program} {w : World} {K : PySem.W.Frag} {mg : Str → Option Value} {base : Heap}
theorem Fun.ok {x qual : Str} {st : Stmt} {f : Addr} {fd : FuncData} {N ps : List Str} {k : Nat} {sp : Sp} (F : Fun K x qual st f fd) (S : FnScope N ps (defScope st)) (len : ∀ vs H Q E, sp vs H Q E → vs.length = ps.length)
    (hbody : ∀ (cdv : Value) (A : Around) (outer : List Env) (s : Shared) (H : Hp) (vs : List V) (Q : VK) (E : XK), Room k (A.deeper (envOfC qual (defScope st) s.heap.objs.size f cdv)) → sp vs H Q E →
      ∃ t, PSs (cxOf CX0 P w K mg base N qual (defScope st) f cdv A outer s H E).nox (defBody st) t ∧ t { nx := fun _ H' => Q .non H', rt := Q } (start N vs) H) : FnOk P w K mg base CX0 (k + 1) f fd ps sp := by
  obtain ⟨oc, od, kV, doc, pm, an, cdv, ct, osl, rfl, lk, hcd⟩ := F.ex
  refine fn_of lk hcd S len fun A outer s H vs Q E hr hsp => ?_
  obtain ⟨t, h, q⟩ := hbody cdv A outer s H vs Q E hr hsp
  exact ⟨t, h.nox, q⟩
theorem Fun.binds {x qual : Str} {st : Stmt} {f : Addr} {fd : FuncData} {ps : List Str} (F : Fun K x qual st f fd)
    (h : ∀ (kV doc pm : Value) (an : Option Addr) (cdv ct : Value) (us : List Value), us.length = ps.length → bindArgs (PySem.W.fnOf x qual (defArgs st) (defBody st) (defScope st) .none kV doc pm an cdv ct) ⟨us, []⟩ = pure (ps.zip us)) : Binds K fd ps [] := by
  obtain ⟨oc, od, kV, doc, pm, an, cdv, ct, osl, rfl, lk, hcd⟩ := F.ex
  exact .all (h kV doc pm an cdv ct)
theorem fun_mk {x qual : Str} {st : Stmt} {f : Addr} {oc : Value} {od an : Option Addr} {osl : Array (Option Value)} {kV doc pm cdv ct : Value} (l : K.lookup f = some ⟨oc, od, .func (PySem.W.fnOf x qual (defArgs st) (defBody st) (defScope st) .none kV doc pm an cdv ct), osl⟩)
    (c : PySem.W.codeIn K cdv qual = true) (k : PySem.W.keepIn K (.ref f) = true) : Fun K x qual st f (PySem.W.fnOf x qual (defArgs st) (defBody st) (defScope st) .none kV doc pm an cdv ct) := ⟨⟨oc, od, kV, doc, pm, an, cdv, ct, osl, rfl, l, c⟩, k⟩
end
theorem hu_of {A : Around} {k : Nat} (hr : Room k A) : A.units + 1 < cLine := Nat.lt_of_le_of_lt (Nat.add_le_add_left (by decide : 1 ≤ 64) _) hr.units

section
variable {X : Cx}
theorem pv (i : Nat) {x : Str} {pos : Pos} (hN : X.N[i]? = some x := by rfl) (hv : Vis X.env.scope x := by first | exact Or.inl rfl | exact Or.inr (Or.inl rfl) | exact Or.inr (Or.inr rfl)) (hd : (x == ("__debug__" : Str)) = false := by decide)
    (hcd : (x == ("__classdict__" : Str)) = false := by decide) : PE X (.Name x pos) (tVar i) := pe_var hN hv hd hcd
end

theorem iteF {A B : Prop} (h : B) : if false = true then A else B := by
  rw [if_neg Bool.false_ne_true]
  exact h
theorem iteT {A B : Prop} (h : A) : if true = true then A else B := by
  rw [if_pos rfl]
  exact h
theorem ite2 {c A B : Prop} [Decidable c] (h1 : c → A) (h2 : ¬ c → B) : if c then A else B := by
  by_cases h : c
  · rw [if_pos h]
    exact h1 h
  · rw [if_neg h]
    exact h2 h

noncomputable def Same (H H' : Hp) : Prop := ∀ b o, H b = some o → H' b = some o
theorem Same.refl (H : Hp) : Same H H := fun _ _ h => h
theorem Same.trans {H H1 H2 : Hp} (a : Same H H1) (b : Same H1 H2) : Same H H2 := fun c o h => b c o (a c o h)
theorem Same.free {H H' : Hp} (e : Same H H') {l : Addr} (h : H' l = Option.none) : H l = Option.none := by
  cases q : H l with
  | none => rfl
  | some o =>
    rw [e l o q] at h
    cases h
theorem Same.seq {K : PySem.W.Frag} {H H' : Hp} {a : Addr} {xs : List V} (e : Same H H') (h : SqL K H a xs) : SqL K H' a xs := by
  rcases h with (h | ⟨o, h⟩) | h
  · exact .inl (.inl (e _ _ h))
  · exact .inl (.inr ⟨o, e _ _ h⟩)
  · exact .inr h

section
variable {κ : Type} [DecidableEq κ]
end
section
variable {X : Cx}
end
end L2
set_option Elab.async false
set_option linter.all false
set_option maxRecDepth 100000
set_option maxHeartbeats 4000000
namespace L2
open PySem PySem.Spec PyProof.Rows

noncomputable def wk : St → St → Prop
  | [], [] => True
  | none :: a, _ :: b => wk a b
  | some x :: a, y :: b => y = some x ∧ wk a b
  | _, _ => False
theorem wk_len : ∀ {a b : St}, wk a b → a.length = b.length
  | [], [], _ => rfl
  | [], _ :: _, h => h.elim
  | none :: _, [], h => h.elim
  | some _ :: _, [], h => h.elim
  | none :: a, _ :: b, h => congrArg (· + 1) (wk_len (a := a) (b := b) h)
  | some _ :: a, _ :: b, h => congrArg (· + 1) (wk_len (a := a) (b := b) h.2)
theorem wk_get : ∀ {a b : St}, wk a b → ∀ (i : Nat) (v : V), a[i]? = some (some v) → b[i]? = some (some v)
  | [], [], _, i, v, e => by simp at e
  | [], _ :: _, h, _, _, _ => h.elim
  | none :: _, [], h, _, _, _ => h.elim
  | some _ :: _, [], h, _, _, _ => h.elim
  | none :: a, y :: b, h, 0, v, e => by simp at e
  | none :: a, y :: b, h, i + 1, v, e => by
    have := wk_get (a := a) (b := b) h i v (by simpa using e)
    simpa using this
  | some x :: a, y :: b, h, 0, v, e => by
    have e' : x = v := by simpa using e
    subst e'
    rw [h.1]; rfl
  | some x :: a, y :: b, h, i + 1, v, e => by
    have := wk_get (a := a) (b := b) h.2 i v (by simpa using e)
    simpa using this

noncomputable def clsOf (env : Env) : List (Str × NameKind) → List (Str × Addr) → List (Str × Addr)
  | [], acc => acc
  | (n, k) :: r, acc => clsOf env r (if (k == .free) = true then (n, (env.cells.lookup n).getD 0) :: acc else acc)
theorem closure_go {env : Env} : ∀ (ns : List (Str × NameKind)) (acc : List (Str × Addr)), (∀ y ∈ ns, y.2 = .free → ∃ c, env.cells.lookup y.1 = some c) →
    (forIn ns acc (fun x r => match x with
      | (name, kind) => if (kind == NameKind.free) = true then (do let c ← cellOf env name; pure (ForInStep.yield ((name, c) :: r))) else pure (ForInStep.yield r)) : Sem (List (Str × Addr))) = pure (clsOf env ns acc)
  | [], acc, _ => rfl
  | (n, k) :: r, acc, h => by
    rw [List.forIn_cons]
    have ih := fun a => closure_go (env := env) r a fun y hy => h y (List.mem_cons_of_mem _ hy)
    by_cases hk : (k == NameKind.free) = true
    · obtain ⟨c, hc⟩ := h (n, k) List.mem_cons_self (by simpa using hk)
      have e1 : cellOf env n = pure c := by unfold cellOf; rw [hc]
      simp only [hk, if_true, e1, pure_bind]
      unfold clsOf
      simp only [hk, if_true, hc, Option.getD_some]
      exact ih _
    · simp only [hk, if_false, pure_bind]
      unfold clsOf
      simp only [hk, if_false]
      exact ih _
theorem closure_eq {scope : Scope} {env : Env} (h : ∀ y ∈ scope.names, y.2 = .free → ∃ c, env.cells.lookup y.1 = some c) : closureFor scope env = pure (clsOf env scope.names []) := by
  have e := closure_go scope.names [] h
  unfold closureFor
  first
    | (rw [show (forIn scope.names ([] : List (Str × Addr)) _ : Sem (List (Str × Addr))) = pure (clsOf env scope.names []) from e]; rfl)
    | (simp only [bind_pure]; exact e)
    | exact (congrArg (· >>= pure) e)
theorem clsOf_mem {env : Env} : ∀ (ns : List (Str × NameKind)) (acc : List (Str × Addr)) (n : Str) (a : Addr), (n, a) ∈ clsOf env ns acc → (n, a) ∈ acc ∨ (a = (env.cells.lookup n).getD 0 ∧ (n, NameKind.free) ∈ ns)
  | [], acc, n, a, h => .inl h
  | (m, k) :: r, acc, n, a, h => by
    unfold clsOf at h
    by_cases hk : (k == NameKind.free) = true
    · rw [if_pos hk] at h
      rcases clsOf_mem r _ n a h with q | ⟨q1, q2⟩
      · rcases List.mem_cons.mp q with q | q
        · cases q
          have hk' : k = .free := by simpa using hk
          subst hk'
          exact .inr ⟨rfl, List.mem_cons_self⟩
        · exact .inl q
      · exact .inr ⟨q1, List.mem_cons_of_mem _ q2⟩
    · rw [if_neg hk] at h
      rcases clsOf_mem r _ n a h with q | ⟨q1, q2⟩
      · exact .inl q
      · exact .inr ⟨q1, List.mem_cons_of_mem _ q2⟩
theorem clsOf_acc {env : Env} : ∀ (ns : List (Str × NameKind)) (acc : List (Str × Addr)) (p : Str × Addr), p ∈ acc → p ∈ clsOf env ns acc
  | [], _, _, h => h
  | (m, k) :: r, acc, p, h => by
    unfold clsOf
    refine clsOf_acc r _ p ?_
    split
    · exact List.mem_cons_of_mem _ h
    · exact h
theorem clsOf_free {env : Env} : ∀ (ns : List (Str × NameKind)) (acc : List (Str × Addr)) (n : Str), (n, NameKind.free) ∈ ns → (n, (env.cells.lookup n).getD 0) ∈ clsOf env ns acc
  | [], _, _, h => nomatch h
  | (m, k) :: r, acc, n, h => by
    unfold clsOf
    rcases List.mem_cons.mp h with q | q
    · cases q
      refine clsOf_acc r _ _ ?_
      rw [if_pos (by rfl)]
      exact List.mem_cons_self
    · exact clsOf_free r _ n q
theorem lookup_mem {α β : Type} [BEq α] [LawfulBEq α] : ∀ {l : List (α × β)} {x : α} {y : β}, l.lookup x = some y → (x, y) ∈ l
  | [], _, _, h => by simp at h
  | (a, b) :: r, x, y, h => by
    rw [List.lookup_cons] at h
    by_cases e : (x == a) = true
    · rw [e] at h
      have e' : x = a := by simpa using e
      have h' : b = y := by simpa using h
      subst e' h'
      exact List.mem_cons_self
    · have e2 : (x == a) = false := by simpa using e
      rw [e2] at h
      exact List.mem_cons_of_mem _ (lookup_mem (by simpa using h))
theorem lookup_of_mem {α β : Type} [BEq α] [LawfulBEq α] : ∀ {l : List (α × β)} {x : α} {y : β}, (x, y) ∈ l → ∃ z, l.lookup x = some z
  | [], _, _, h => nomatch h
  | (a, b) :: r, x, y, h => by
    rw [List.lookup_cons]
    by_cases e : (x == a) = true
    · rw [e]; exact ⟨b, rfl⟩
    · have e2 : (x == a) = false := by simpa using e
      rw [e2]
      rcases List.mem_cons.mp h with q | q
      · cases q; simp at e
      · exact lookup_of_mem q
theorem cls_look {env : Env} {ns : List (Str × NameKind)} {x : Str} {c : Addr} (h : (clsOf env ns []).lookup x = some c) (hall : ∀ y ∈ ns, y.2 = .free → ∃ c, env.cells.lookup y.1 = some c) : env.cells.lookup x = some c := by
  rcases clsOf_mem ns [] x c (lookup_mem h) with q | ⟨q1, q2⟩
  · nomatch q
  · obtain ⟨c', hc⟩ := hall _ q2 rfl
    have hc' : env.cells.lookup x = some c' := hc
    rw [hc'] at q1
    rw [hc', q1]; rfl
theorem cls_has {env : Env} {ns : List (Str × NameKind)} {x : Str} (h : (x, NameKind.free) ∈ ns) : ∃ c, (clsOf env ns []).lookup x = some c := lookup_of_mem (clsOf_free ns [] x h)

noncomputable def Cx.block (X : Cx) (N : List Str) (scope : Scope) (C : Addr) (s : Shared) (H : Hp) (fp : List Addr) : Cx :=
  { X with N := N, s₀ := s, H₀ := H, env := compEnvC scope (clsOf X.env scope.names []) C X.env, outer := X.stack, ex := fp, fn := fun _ => false, pn := [], xe := fun _ _ => False }
theorem relabel_kind {scope : Scope} {env : Env} {x : Str} {k : NameKind} (h : (relabel scope env).names.lookup x = some k) : ∃ k', scope.names.lookup x = some k' ∧ (k = k' ∨ (k' = .free ∧ k = .cell)) := by
  unfold relabel at h
  generalize scope.names = ns at h
  induction ns with
  | nil => simp at h
  | cons p r ih =>
    obtain ⟨n, k0⟩ := p
    rw [List.map_cons] at h
    by_cases e : (x == n) = true
    · refine ⟨k0, by rw [List.lookup_cons, e], ?_⟩
      by_cases c : (k0 == NameKind.free && env.scope.kind == .function && env.kindOf n == some .cell) = true
      · have h1 : some NameKind.cell = some k := by
          have h2 := h
          simp only [c, if_true] at h2
          rw [List.lookup_cons, e] at h2
          exact h2
        have h3 : k0 = .free := by
          simp only [Bool.and_eq_true, beq_iff_eq] at c
          exact c.1.1
        exact .inr ⟨h3, (Option.some.inj h1).symm⟩
      · have h1 : some k0 = some k := by
          have h2 := h
          simp only [c, Bool.false_eq_true, if_false] at h2
          rw [List.lookup_cons, e] at h2
          exact h2
        exact .inl (Option.some.inj h1).symm
    · have e2 : (x == n) = false := by simpa using e
      rw [List.lookup_cons, e2]
      refine ih ?_
      by_cases c : (k0 == NameKind.free && env.scope.kind == .function && env.kindOf n == some .cell) = true
      · have h2 := h
        simp only [c, if_true] at h2
        rw [List.lookup_cons, e2] at h2
        exact h2
      · have h2 := h
        simp only [c, Bool.false_eq_true, if_false] at h2
        rw [List.lookup_cons, e2] at h2
        exact h2
theorem relabel_free {scope : Scope} {env : Env} {x : Str} (h : scope.names.lookup x = some .free) : (relabel scope env).names.lookup x = some .cell ∨ (relabel scope env).names.lookup x = some .free := by
  unfold relabel
  show List.lookup x (scope.names.map _) = _ ∨ List.lookup x (scope.names.map _) = _
  generalize scope.names = ns at h
  induction ns with
  | nil => simp at h
  | cons p r ih =>
    obtain ⟨n, k0⟩ := p
    rw [List.map_cons]
    by_cases e : (x == n) = true
    · rw [List.lookup_cons, e] at h
      have h' : k0 = .free := by simpa using h
      subst h'
      by_cases c : (NameKind.free == NameKind.free && env.scope.kind == .function && env.kindOf n == some .cell) = true
      · left
        simp only [c, if_true]
        rw [List.lookup_cons, e]
      · right
        simp only [c, Bool.false_eq_true, if_false]
        rw [List.lookup_cons, e]
    · have e2 : (x == n) = false := by simpa using e
      rw [List.lookup_cons, e2] at h
      have h3 := ih h
      by_cases c : (k0 == NameKind.free && env.scope.kind == .function && env.kindOf n == some .cell) = true
      · simp only [c, if_true]
        rw [List.lookup_cons, e2]
        exact h3
      · simp only [c, Bool.false_eq_true, if_false]
        rw [List.lookup_cons, e2]
        exact h3

noncomputable def PIfs (X : Cx) (ifs : List Expr) (t : TT) : Prop :=
  ∀ (pins : List (Addr × Obj)) (s : Shared) (σ : St) (H : Hp) (Q : Bool → Hp → Prop), Inv X pins σ H s → t σ H Q →
    wpAny (model X.prog X.w) X.A (forIn ifs true fun c r => if r = true then do let ok ← isTrue c X.env (eval c X.env); pure (ForInStep.yield ok) else pure (ForInStep.yield r)) (TP X pins σ Q) X.xe s
noncomputable def tYes : TT := fun _ H Q => Q true H
theorem pifs_nil {X : Cx} : PIfs X [] tYes := fun _ _ _ H _ I h => wpAny_tests_nil ⟨H, I, h⟩
theorem pifs_one {X : Cx} {c : Expr} {t : TT} (h : PT X c t) : PIfs X [c] t := fun pins s σ H Q I hw => wpAny_tests_one (h pins s σ H Q I hw)

theorem compLoop_any {prog : Program} {w : World} {A : Around} {R : Result → Shared → Prop} {s : Shared} {elt target iter : Expr} {ifs : List Expr} {scope : Scope} {pos : Pos} {it acc : Value} {env : Env} (I : Nat → Shared → Prop)
    (turn : ∀ n s, I n s → wpAny (model prog w) A (pyNext it) (fun r s1 => match r with
      | none => R (.ok .next) s1
      | some v => wpAny (model prog w) A (letOwnedTupleGo target it v) (fun _ s2 => wpAny (model prog w) A (assign target env v) (fun _ s3 =>
          wpAny (model prog w) A (forIn ifs true fun c r => if r = true then do let ok ← isTrue c env (eval c env); pure (ForInStep.yield ok) else pure (ForInStep.yield r)) (fun ok s4 =>
            if ok = true then wpAny (model prog w) A (eval elt env) (fun x s5 =>
              wpAny (model prog w) A (call (.builtin "list.append") [acc, x]) (fun _ s6 => ∃ m, m < n ∧ I m s6) (fun _ _ => False) s5) (fun _ _ => False) s4
            else ∃ m, m < n ∧ I m s4) (fun _ _ => False) s3) (fun _ _ => False) s2) (fun _ _ => False) s1) (fun _ _ => False) s)
    (n : Nat) (h : I n s) : codeAny (model prog w) A (.compLoop (.ListComp elt [⟨target, iter, ifs, 0⟩] scope pos) 0 it acc env) R s := by
  refine codeAny_loop rfl I (fun n s hI => ?_) n h
  show wpAny _ A ((compTurn (.ListComp elt [⟨target, iter, ifs, 0⟩] scope pos) 0 it acc env).onRaise (fun x => do noteFrame x env; theTreesLotGoes x)) _ _ s
  refine wpAny_noted ?_
  rw [compTurn_list]
  have no : ∀ {E : Value → Shared → Prop}, ∀ e s', (fun (_ : Value) (_ : Shared) => False) e s' → E e s' := fun _ _ z => False.elim z
  refine wpAny_bind (wpAny_standAt (wpAny_bind (wpAny_mono (turn n s hI) (fun r s1 h1 => ?_) no)))
  cases r with
  | none => exact wpAny_pure h1
  | some v =>
    refine wpAny_bind (wpAny_mono h1 (fun _ s2 h2 => ?_) no)
    refine wpAny_bind (wpAny_mono h2 (fun _ s3 h3 => wpAny_bind (wpAny_mono h3 (fun ok s4 h4 => ?_) no)) no)
    cases ok with
    | false => exact wpAny_pure ⟨rfl, h4⟩
    | true =>
      exact wpAny_bind (wpAny_bind (wpAny_mono h4 (fun x s5 h5 => wpAny_bind (wpAny_mono h5 (fun _ s6 h6 => wpAny_pure (wpAny_pure ⟨rfl, h6⟩)) no)) no))

noncomputable def blockSt (tgs : List Str) (cap : List (Str × Nat)) (σ : St) : St := tgs.map (fun _ => none) ++ cap.map fun c => (σ[c.2]?).join
noncomputable def tComp (wi : TI) (g : TG) (tt : TT) (te : TE) (f : St → St) : TE := fun σ H Q => wi σ H fun J H1 => ∀ D, H1 D = none → ∃ W : Nat → Nat → Hp → List V → Prop, (∃ m, W 0 m (upd H1 D (.lst [])) []) ∧
  ∀ i m H ys, W i m H ys → H D = some (.lst ys) ∧ ((J.stop i H ∧ Q (.ref D) H) ∨ (J.go i H ∧ ∀ x H', J.yld i H x H' → g x (f σ) H' fun σ2 H2 => wk (f σ) σ2 ∧ tt σ2 H2 fun b H3 =>
    if b = true then te σ2 H3 fun v H4 => H4 D = some (.lst ys) ∧ ys.length < sizeLine ∧ ∃ m', m' < m ∧ W (i + 1) m' (upd H4 D (.lst (ys ++ [v]))) (ys ++ [v])
    else ∃ m', m' < m ∧ W (i + 1) m' H3 ys))

structure BlockOk (X : Cx) (scope : Scope) (tgs : List Str) (cap : List (Str × Nat)) : Prop where
  kind : scope.kind = .function
  nocell : (scope.names.all fun y => !(y.2 == NameKind.cell)) = true
  names : (scope.names.all fun y => !(y.2 == NameKind.local) || (scope.names.lookup y.1 == some .local)) = true
  free : (scope.names.all fun y => !(y.2 == NameKind.free) || (X.env.scope.names.lookup y.1 == some .cell) || (X.env.scope.names.lookup y.1 == some .free)) = true
  caps : (cap.all fun c => decide (X.N[c.2]? = some c.1) && (scope.names.lookup c.1 == some .free) && (decide (X.env.scope.names.lookup c.1 = some .cell) || decide (X.env.scope.names.lookup c.1 = some .free))) = true
  tgl : (tgs.all fun x => (scope.names.lookup x == some .local)) = true
section
variable {X : Cx} {scope : Scope} {tgs : List Str} {cap : List (Str × Nat)}
theorem BlockOk.cellAt (B : BlockOk X scope tgs cap) (ok : X.Ok) : ∀ y ∈ scope.names, y.2 = .free → ∃ c, X.env.cells.lookup y.1 = some c := fun y hy hk => by
  have q := List.all_eq_true.mp B.free y hy
  rw [hk] at q
  refine ok.has y.1 ?_
  simp only [beq_self_eq_true, Bool.not_true, Bool.false_or, Bool.or_eq_true, beq_iff_eq] at q
  exact q
theorem BlockOk.noc (B : BlockOk X scope tgs cap) : ∀ y ∈ scope.names, y.2 ≠ .cell := fun y hy hk => by
  have q := List.all_eq_true.mp B.nocell y hy
  rw [hk] at q
  simp at q
theorem BlockOk.locs (B : BlockOk X scope tgs cap) : ∀ y ∈ scope.names, y.2 = .local → scope.names.lookup y.1 = some .local := fun y hy hk => by
  have q := List.all_eq_true.mp B.names y hy
  rw [hk] at q
  simpa using q

theorem Inv.enter {pins : List (Addr × Obj)} {σ : St} {H : Hp} {s : Shared} {h1 : Heap} {tk : Nat} {fp : List Addr} (B : BlockOk X scope tgs cap) (I : Inv X pins σ H s) (hfp : ∀ b ∈ fp, FpOk X pins H b) (hlt : ∀ b ∈ fp, b < s.heap.objs.size)
    (hns : h1.Ns s.heap.objs.size (fun _ => none)) (old : ∀ b o, s.heap.get? b = some o → h1.get? b = some o) :
    Inv (X.block (tgs ++ cap.map (·.1)) scope s.heap.objs.size s H fp) [] (blockSt tgs cap σ) H { s with heap := h1, toks := tk } := by
  have cellsIn : ∀ x c, (clsOf X.env scope.names []).lookup x = some c → X.env.cells.lookup x = some c := fun x c e => cls_look e (B.cellAt I.ok)
  have kindIn : ∀ x, ((relabel scope X.env).names.lookup x = some .cell ∨ (relabel scope X.env).names.lookup x = some .free) → (x, NameKind.free) ∈ scope.names := fun x hx => by
    have go : ∀ k, (relabel scope X.env).names.lookup x = some k → (k = .cell ∨ k = .free) → (x, NameKind.free) ∈ scope.names := fun k hk hc => by
      obtain ⟨k', e1, e2⟩ := relabel_kind hk
      have m := lookup_mem e1
      rcases e2 with e2 | ⟨e2, _⟩
      · subst e2
        rcases hc with z | z
        · exact absurd z (B.noc _ m)
        · subst z; exact m
      · subst e2; exact m
    rcases hx with h | h
    · exact go _ h (.inl rfl)
    · exact go _ h (.inr rfl)
  have nocl : ∀ x c, X.env.cells.lookup x = some c → c ≠ s.heap.objs.size := fun x c e => by
    obtain ⟨v, q⟩ := I.cell x c e
    exact Nat.ne_of_lt q.lt
  refine ⟨⟨I.ok.mod, ?_, I.ok.glob, I.ok.blt, Nat.le_refl _, fun x y c e1 e2 => I.ok.inj x y c (cellsIn x c e1) (cellsIn y c e2), fun x hx => ?_, fun x c hf _ => absurd (show false = true from hf) Bool.false_ne_true, I.ok.hd, I.ok.frames, .inl rfl,
    fun b hb => ⟨Nat.ne_of_lt (hlt b hb), fun x c e => ?_⟩, I.bs, Nat.le_trans I.ok.bsz I.sz, fun b o e hb => ?_, fun b hb hf => ?_, I.stack, I.stkFree⟩,
    rfl, I.bare, Un.kept old, ⟨_, hns, fun i x v h2 h3 h4 => ?_⟩, fun x c e => ?_, ?_, fun x c e => I.freeC x c (cellsIn x c e), fun p hp => absurd (show p ∈ ([] : List (Addr × Obj)) from hp) (by simp), I.hok.kept old, ?_⟩
  · exact B.kind
  · exact cls_has (kindIn x hx)
  · exact (hfp b hb).2.2.2.2.1 x c (cellsIn x c e)
  · -- no object of the base is an iterator of ours
    rcases (hfp b hb).2.2.2.1 with z | z
    · exact I.ok.noex b o e z
    · have q := I.ok.bs b o e
      exact absurd (Nat.lt_of_lt_of_le (Heap.lt_size q.1) z) (Nat.lt_irrefl _)
  · have hf' : b ∈ frs X.stack := hf
    rcases List.mem_cons.mp (I.stkSub b hf') with z | z
    · exact (hfp b hb).2.1 z
    · exact (hfp b hb).2.2.1 z
  · -- a name that is known: one of the captured ones
    have hi : tgs.length ≤ i := by
      by_cases hl : i < tgs.length
      · exfalso
        unfold blockSt at h3
        rw [List.getElem?_append_left (by simpa using hl), List.getElem?_map] at h3
        cases e : tgs[i]? with
        | none => rw [e] at h3; cases h3
        | some z => rw [e] at h3; cases h3
      · omega
    unfold blockSt at h3
    rw [List.getElem?_append_right (by simpa using hi), List.length_map, List.getElem?_map] at h3
    have h2' : (tgs ++ cap.map (·.1))[i]? = some x := h2
    rw [List.getElem?_append_right hi, List.getElem?_map] at h2'
    cases e : cap[i - tgs.length]? with
    | none => rw [e] at h2'; cases h2'
    | some c =>
      rw [e] at h2' h3
      have hx : c.1 = x := by simpa using h2'
      have hv : (σ[c.2]?).join = some v := by simpa using h3
      have hm : c ∈ cap := List.mem_of_getElem? e
      have q := List.all_eq_true.mp B.caps c hm
      simp only [Bool.and_eq_true, decide_eq_true_eq, beq_iff_eq, Bool.or_eq_true] at q
      obtain ⟨⟨q1, q2⟩, q3⟩ := q
      have hσ : σ[c.2]? = some (some v) := by
        cases z : σ[c.2]? with
        | none => rw [z] at hv; cases hv
        | some o =>
          rw [z] at hv
          have : o = some v := by simpa using hv
          rw [this]
      obtain ⟨m, _, hl⟩ := I.loc
      obtain ⟨u, r, l⟩ := hl c.2 c.1 v q1 hσ (by
        rcases q3 with z | z
        · exact .inr (.inl z)
        · exact .inr (.inr z))
      subst hx
      refine ⟨u, r, .inr ⟨relabel_free q2, ?_⟩⟩
      have nl : ¬ X.env.kindOf c.1 = some .local := fun z => by
        rcases q3 with y | y
        · have : X.env.kindOf c.1 = some .cell := y
          rw [this] at z; cases z
        · have : X.env.kindOf c.1 = some .free := y
          rw [this] at z; cases z
      rcases l with ⟨l1, _⟩ | ⟨_, d, l2, l3⟩
      · exact absurd l1 nl
      · obtain ⟨d', e'⟩ := cls_has (env := X.env) (lookup_mem q2)
        have : d = d' := Option.some.inj (l2.symm.trans (cellsIn _ _ e'))
        subst this
        obtain ⟨oc, ho, hd⟩ := l3
        exact ⟨d, e', oc, old d oc ho, hd⟩
  · obtain ⟨v, oc, ho, hd⟩ := I.cell x c (cellsIn x c e)
    exact ⟨v, oc, old c oc ho, hd⟩
  · exact I.hok.fresh (Nat.le_refl _)
  · unfold blockSt
    show _ = (tgs ++ cap.map (·.1)).length
    simp

theorem Inv.leave {pins : List (Addr × Obj)} {σ σ' : St} {H H' : Hp} {s s' : Shared} {h2 : Heap} {fp : List Addr} {N : List Str} (I : Inv X pins σ H s) (hfp : ∀ b ∈ fp, FpOk X pins H b)
    (J : Inv (X.block N scope s.heap.objs.size s H fp) [] σ' H' s') (hs : Heap.SameBut s.heap.objs.size s'.heap h2) : Inv X pins σ H' { s' with heap := h2 } := by
  have u : Un (frs X.stack) fp H H' s.heap s'.heap := J.base
  have ne : ∀ b o, s.heap.get? b = some o → b ≠ s.heap.objs.size := fun b o e => Nat.ne_of_lt (Heap.lt_size e)
  have hf : H' s.heap.objs.size = none := J.free
  have k : ∀ b o, b ≠ s.heap.objs.size → s'.heap.get? b = some o → h2.get? b = some o := fun b o hb e => (hs.2 b hb).trans e
  have u2 : Un (frs X.stack) fp H H' s.heap h2 :=
    ⟨fun b o e n h1 h3 => k b o (ne b o e) (u.keep b o e n h1 h3), fun b o e n h1 h3 => let ⟨sl, q⟩ := u.slot b o e n h1 h3; ⟨sl, k b _ (ne b o e) q⟩, u.free, fun b o e h3 => let ⟨o', q⟩ := u.there b o e h3; ⟨o', k b o' (ne b o e) q⟩, u.tups, u.frzs, u.tbls⟩
  have hok : HOk X.prog X.w H' h2 := fun b ob e => (J.hok b ob e).stay (fun c v hc q => k c v (by
    rcases hc with z | z
    · subst z
      intro y
      rw [y, hf] at e; cases e
    · intro y
      rw [y, hf] at z; cases z) q) (fun _ q => q) fun _ _ q => q
  exact Inv.call' I (s' := { s' with heap := h2 }) J.os u2 hok J.bare fun b hb => by
    obtain ⟨f0, f1, f2, f3, f4, f5⟩ := hfp b hb
    exact ⟨f3, f1, f4, f5⟩

theorem pe_lc {elt tg iter : Expr} {ifs : List Expr} {pos : Pos} {wi : TI} {g : TG} {tt : TT} {te : TE} (hc : X.calm = true) (B : BlockOk X scope tgs cap) (hi : PI X tg iter wi)
    (hg : ∀ C s H fp, PG (X.block (tgs ++ cap.map (·.1)) scope C s H fp) tg g) (ht : ∀ C s H fp, PIfs (X.block (tgs ++ cap.map (·.1)) scope C s H fp) ifs tt) (he : ∀ C s H fp, PE (X.block (tgs ++ cap.map (·.1)) scope C s H fp) elt te)
    (hs : ∀ x, foldedSetIterable iter X.env x = pure x := by intro _; rfl) : PE X (.ListComp elt [⟨tg, iter, ifs, 0⟩] scope pos) (tComp wi g tt te (blockSt tgs cap)) := by
  intro pins s σ H Q I h
  rw [eval_ListComp]
  refine wpAny_comprehension_free (use := none) rfl hs (closure_eq (B.cellAt I.ok)) B.kind B.locs (thn (hi pins s σ H _ I h) fun v s1 h1 => thn h1 fun itv s2 h2 => ?_)
  obtain ⟨it, fp, tn, J, H2, e, I2, T, st2, f2, q⟩ := h2
  subst e
  have lt2 : ∀ b ∈ fp, b < s2.heap.objs.size := fun b hb => let ⟨o, e, _⟩ := T.obj _ _ st2 b hb; Heap.lt_size e
  have hD : H2 s2.heap.objs.size = none := I2.hok.fresh (Nat.le_refl _)
  obtain ⟨W, ⟨m0, w0⟩, turn⟩ := q s2.heap.objs.size hD
  refine wpAny_newObj_type ?_
  have I3 : Inv X pins σ (upd H2 s2.heap.objs.size (.lst [])) { s2 with heap := s2.heap.push { cls := .type "list", dict := none, data := .seq ([] : List Value).toArray } } := I2.lnew (t' := s2.toks) (ys := []) (its := []) .nil (Nat.zero_le _)
  have st3 : tn 0 (s2.heap.push { cls := .type "list", dict := none, data := .seq ([] : List Value).toArray }) := T.keep _ _ _ st2 fun b _ o e => Heap.get?_push_of_some _ e
  have nD : ∀ b ∈ fp, b ≠ s2.heap.objs.size := fun b hb => Nat.ne_of_lt (lt2 b hb)
  have f3 : ∀ b ∈ fp, FpOk X pins (upd H2 s2.heap.objs.size (.lst [])) b := fun b hb => ⟨by rw [upd_ne (nD b hb)]; exact (f2 b hb).1, (f2 b hb).2⟩
  generalize hs3 : ({ s2 with heap := s2.heap.push { cls := .type "list", dict := none, data := .seq ([] : List Value).toArray } } : Shared) = s3 at I3 st3 ⊢
  have st3' : tn 0 s3.heap := by rw [← hs3]; exact st3
  have lt3 : ∀ b ∈ fp, b < s3.heap.objs.size := fun b hb => let ⟨o, e, _⟩ := T.obj _ _ st3' b hb; Heap.lt_size e
  generalize hH3 : upd H2 s2.heap.objs.size (.lst []) = H3 at I3 f3 w0
  generalize s2.heap.objs.size = D at *
  refine wpAny_newFunctionEnv B.noc (by intro y hy; simp at hy) (fun h1 hns hsb => ?_) B.kind
  have old : ∀ b o, s3.heap.get? b = some o → h1.get? b = some o := fun b o e => hsb.extBut b o (Nat.ne_of_lt (Heap.lt_size e)) (Heap.get?_push_of_some _ e)
  have I4 := Inv.enter (tk := s3.toks + ([] : List (Str × Value)).length) (h1 := h1) B I3 f3 lt3 hns old
  have st4 : tn 0 h1 := T.keep _ _ _ st3' fun b _ o e => old b o e
  have fpB : ∀ {H' : Hp}, (∀ b ∈ fp, H' b = none) → ∀ b ∈ fp, FpOk (X.block (tgs ++ cap.map (·.1)) scope s3.heap.objs.size s3 H3 fp) [] H' b := fun {H'} hn b hb =>
    ⟨hn b hb, Nat.ne_of_lt (lt3 b hb), I4.ok.exfs b hb, .inl hb, fun x c e => (I4.ok.exf b hb).2 x c e, fun p hp => absurd (show p ∈ ([] : List (Addr × Obj)) from hp) (by simp)⟩
  have loop : codeAny (model X.prog X.w) X.A (.compLoop (.ListComp elt [⟨tg, iter, ifs, 0⟩] scope pos) 0 (.ref it) (.ref D) (compEnvC scope (clsOf X.env scope.names []) s3.heap.objs.size X.env))
      (compPost (model X.prog X.w) X.A X.xe none (EP X pins σ Q) (.ref D) s3.heap.objs.size) { s3 with heap := h1, toks := s3.toks + ([] : List (Str × Value)).length } := by
    refine compLoop_any (fun n s' => ∃ i H' ys, Inv (X.block (tgs ++ cap.map (·.1)) scope s3.heap.objs.size s3 H3 fp) [] (blockSt tgs cap σ) H' s' ∧ tn i s'.heap ∧ (∀ b ∈ fp, H' b = none) ∧ W i n H' ys) ?_ m0 ⟨0, H3, [], I4, st4, fun b hb => (f3 b hb).1, w0⟩
    rintro n s5 ⟨i, H5, ys, I5, st5, fr5, w5⟩
    obtain ⟨hl, ht5⟩ := turn i n H5 ys w5
    rcases ht5 with ⟨stop, qd⟩ | ⟨go, step⟩
    · refine thn (T.done (X.block (tgs ++ cap.map (·.1)) scope s3.heap.objs.size s3 H3 fp) rfl rfl rfl hc i [] s5 _ H5 _ I5 (fpB fr5) st5 stop) fun r s6 ⟨hr, I6⟩ => ?_
      subst hr
      obtain ⟨m6, n6, _⟩ := I6.loc
      exact ⟨m6, n6, fun h' hs' => ⟨.ref D, H5, Inv.leave I3 f3 I6 hs', rfl, qd⟩⟩
    · refine thn (T.item (X.block (tgs ++ cap.map (·.1)) scope s3.heap.objs.size s3 H3 fp) rfl rfl rfl hc i [] s5 _ H5 _ I5 (fpB fr5) st5 go) fun r s6 ⟨u, hr, h6⟩ => ?_
      subst hr
      refine thn h6 fun _ s7 ⟨x, H7, I7, r7, y7, st7, fr7⟩ => ?_
      have I7' := I7.pinned (fpB fr7) (T.obj _ _ st7)
      have again : ∀ {σ8 : St} {H8 : Hp} {s8 : Shared} {ys8 : List V}, Inv (X.block (tgs ++ cap.map (·.1)) scope s3.heap.objs.size s3 H3 fp) ([] ++ pinsAt fp s7.heap) σ8 H8 s8 → wk (blockSt tgs cap σ) σ8 → (∃ m', m' < n ∧ W (i + 1) m' H8 ys8) →
          ∃ m, m < n ∧ ∃ i H' ys, Inv (X.block (tgs ++ cap.map (·.1)) scope s3.heap.objs.size s3 H3 fp) [] (blockSt tgs cap σ) H' s8 ∧ tn i s8.heap ∧ (∀ b ∈ fp, H' b = none) ∧ W i m H' ys := fun {σ8 H8 s8 ys8} I8 k8 ⟨m', hm, w8⟩ => by
        refine ⟨m', hm, i + 1, H8, ys8, I8.unpinned.weak (wk_len k8) (wk_get k8), T.keep _ _ _ st7 fun b hb o e => (I8.pin (b, o) (List.mem_append_right _ (List.mem_append_right _ (mem_pinsAt hb e)))).1, fun b hb => ?_, w8⟩
        obtain ⟨o, e, d⟩ := T.obj _ _ st7 b hb
        exact (I8.pin (b, o) (List.mem_append_right _ (List.mem_append_right _ (mem_pinsAt hb e)))).2.1
      refine thn (hg _ _ _ _ _ s7 _ H7 x u _ I7' r7 (step x H7 y7)) fun _ s8 ⟨σ8, H8, I8, k8, q8⟩ => ?_
      refine thn (ht _ _ _ _ _ s8 σ8 H8 _ I8 q8) fun ok s9 ⟨H9, I9, q9⟩ => ?_
      cases ok with
      | false =>
        rw [if_neg Bool.false_ne_true] at q9 ⊢
        exact again I9 k8 q9
      | true =>
        rw [if_pos rfl] at q9 ⊢
        refine thn (he _ _ _ _ _ s9 σ8 H9 _ I9 q9) fun y sA ⟨yv, HA, IA, rA, hA, zA, qA⟩ => ?_
        exact thn (mt_append _ sA σ8 HA (.ref D) [yv] (.ref D) [y] (fun v H' => v = .non ∧ ∃ m', m' < n ∧ W (i + 1) m' H' (ys ++ [yv])) IA rfl (.cons rA .nil) ⟨D, ys, yv, rfl, rfl, hA, zA, rfl, qA⟩) fun _ sB ⟨_, HB, IB, _, _, qB⟩ => again IB k8 qB
  exact codeAny_compStart_list loop (T.self _ 0 _ _ _ st4 loop)
end
end L2
set_option Elab.async false
set_option linter.all false
set_option maxRecDepth 100000
set_option maxHeartbeats 4000000
namespace L2
open PySem PySem.Spec PyProof.Rows

noncomputable def Itf (n : Nat) (f : Nat → V) : It := ⟨fun i _ => i < n, fun i H x H' => H' = H ∧ x = f i, fun i _ => i = n⟩
theorem turn_walks {P : Program} {w : World} {K : PySem.W.Frag} {x : Str} {px : Pos} {it : Addr} {n : Nat} {f : Nat → V} {Pv : Nat → Value → Prop} {St : Nat → Heap → Prop}
    (W : ∀ A : Around, A.handled = none → Walks P w A it [it] [it] n Pv St) (hP : ∀ i v, Pv i v → RelV (f i) v) (hobj : ∀ i h, St i h → ∃ o, h.get? it = some o ∧ ∀ v, o.data ≠ .cell v)
    (hfr : ∀ i h h', St i h → (∀ o, h.get? it = some o → h'.get? it = some o) → St i h')
    (hself : ∀ (A : Around) (i : Nat) (s : Shared) (Q : Value → Shared → Prop) (E : Value → Shared → Prop), St i s.heap → Q (.ref it) s → wpAny (model P w) A (pyIter (.ref it)) Q E s) :
    Turn P w K (.Name x px) (Itf n f) [it] it St where
  mem := by simp
  obj := fun i h st b hb => by
    have e : b = it := by simpa using hb
    subst e
    exact hobj i h st
  keep := fun i h h' st k => hfr i h h' st fun o e => k it (by simp) o e
  item := by
    intro X hP' hw hK hc i pins s σ H E I hf st hg
    subst hP' hw hK
    obtain ⟨f0, f1, f2, f3, f4, f5⟩ := hf it (by simp)
    refine (W X.A (I.ok.hd hc)).item i s _ _ hg st fun v h' tk hv st' kk => ?_
    have I1 : Inv X pins σ H { s with heap := h', toks := tk } := I.turned (fun b o hb e => kk b o (by simpa using hb) e) f0 f1 f3 f4 f5
    refine ⟨v, rfl, wpAny_of_eq (a := ()) (by rfl) ⟨f i, H, I1, hP i v hv, ⟨rfl, rfl⟩, st', fun b hb => (hf b hb).1⟩⟩
  done := by
    intro X hP' hw hK hc i pins s σ H E I hf st hg
    subst hP' hw hK
    obtain ⟨f0, f1, f2, f3, f4, f5⟩ := hf it (by simp)
    have e : i = n := hg
    subst e
    exact (W X.A (I.ok.hd hc)).done s _ _ st fun h' tk kk => ⟨rfl, I.turned (fun b o hb e => kk b o (by simpa using hb) e) f0 f1 f3 f4 f5⟩
  self := fun A i s Q E st h => hself A i s Q E st h

noncomputable def signV (z : Str) (i : Nat) : V := .str ⟨#[z.cps.getD i 0]⟩
theorem signAt_rel {z : Str} {i : Nat} {v : Value} (h : SignAt z i v) : RelV (signV z i) v := by
  obtain ⟨c, u, h1, h2⟩ := h
  subst h2
  refine ⟨u, ?_⟩
  have : z.cps.getD i 0 = c := by rw [Array.getD_eq_getD_getElem?, h1]; rfl
  rw [this]
theorem turn_str {P : Program} {w : World} {K : PySem.W.Frag} {x : Str} {px : Pos} {it : Addr} {z : Str} {t : Tok} {ty : String} (hty : ty = "str_ascii_iterator" ∨ ty = "str_iterator") :
    Turn P w K (.Name x px) (Itf z.cps.size (signV z)) [it] it (fun i h => h.IsStrIter it ty z t i) := by
  rcases hty with e | e
  · subst e
    exact turn_walks (fun A hA => Walks.strAscii hA it z t) (fun i v h => signAt_rel h) (fun i h st => let ⟨o, e, _, d⟩ := st; ⟨o, e, fun v q => by rw [d] at q; cases q⟩)
      (fun i h h' st k => let ⟨o, e, r⟩ := st; ⟨o, k o e, r⟩) fun A i s Q E st q => wpAny_pyIter_striter_ascii st q
  · subst e
    exact turn_walks (fun A hA => Walks.strWide hA it z t) (fun i v h => signAt_rel h) (fun i h st => let ⟨o, e, _, d⟩ := st; ⟨o, e, fun v q => by rw [d] at q; cases q⟩)
      (fun i h h' st k => let ⟨o, e, r⟩ := st; ⟨o, k o e, r⟩) fun A i s Q E st q => wpAny_pyIter_striter_wide st q
section
variable {X : Cx} {x : Str} {px : Pos}
noncomputable def iStr (tl : TE) : TI := fun σ H R => tl σ H fun v H1 => ∃ z : Str, v = .str z ∧ R (Itf z.cps.size (signV z)) H1
theorem pi_str {l : Expr} {tl : TE} (hl : PE X l tl) : PI X (.Name x px) l (iStr tl) := by
  intro pins s σ H R I h
  refine thn (hl pins s σ H _ I h) fun v s1 ⟨y, H1, I1, r1, q1⟩ => ?_
  obtain ⟨z, e, q⟩ := q1
  subst e
  obtain ⟨t, e⟩ := r1
  subst e
  have fin : ∀ ty : String, (ty = "str_ascii_iterator" ∨ ty = "str_iterator") → PIE X pins σ (.Name x px) R (.ref s1.heap.objs.size) { s1 with heap := s1.heap.push { cls := .type ty, data := .fields #[.str z t, .int 0 0] } } := fun ty hty => by
    refine ⟨s1.heap.objs.size, [s1.heap.objs.size], _, _, H1, rfl, I1.kept (t' := s1.toks) fun b o e => Heap.get?_push_of_some _ e, turn_str (t := t) hty, ⟨_, Heap.get?_push_size _ rfl, rfl, rfl⟩, fun b hb => ?_, q⟩
    have e : b = s1.heap.objs.size := by simpa using hb
    subst e
    exact I1.fpOk (Nat.le_refl _) (I1.hok.fresh (Nat.le_refl _))
  cases ha : z.cps.all (· < 128) with
  | false => exact wpAny_pyIter_wide ha (fin _ (.inr rfl))
  | true => exact wpAny_pyIter_ascii ha (fin _ (.inl rfl))
end

section
variable {X : Cx}
noncomputable def rSlS : V → Option Int → Option Int → Hp → VK → Prop := fun x lo hi H Q => ∃ z : Str, x = .str z ∧ z.length ≤ sizeLine ∧ Q (.str (Txt.slice z lo hi)) H
theorem sl_str : SlR X rSlS := by
  intro pins s σ H x v vl vu lo hi sl Q I rx hs pl pu h
  obtain ⟨z, e, hz, q⟩ := h
  subst e
  obtain ⟨t, e⟩ := rx
  subst e
  refine ⟨"str", _, F.slot_str_getitem.lookup, typeIs_str _ _ _, ?_⟩
  have fin : ∀ (t' : Tok) (k : Nat), EP X pins σ Q (.str (Txt.slice z lo hi) t') { s with toks := k } := fun t' k => ⟨.str _, H, I.tok k, ⟨t', rfl⟩, q⟩
  cases pl with
  | none =>
    cases pu with
    | none => exact wpAny_getItem_str_slice (l := none) (u := none) (st := none) hs rfl (post_val_or_str ⟨Nat.le_trans (Txt.slice_le z _ _) hz, fin⟩)
    | int j uj => exact wpAny_getItem_str_slice (l := none) (u := some (j, uj)) (st := none) hs rfl (post_val_or_str ⟨Nat.le_trans (Txt.slice_le z _ _) hz, fin⟩)
  | int i ui =>
    cases pu with
    | none => exact wpAny_getItem_str_slice (l := some (i, ui)) (u := none) (st := none) hs rfl (post_val_or_str ⟨Nat.le_trans (Txt.slice_le z _ _) hz, fin⟩)
    | int j uj => exact wpAny_getItem_str_slice (l := some (i, ui)) (u := some (j, uj)) (st := none) hs rfl (post_val_or_str ⟨Nat.le_trans (Txt.slice_le z _ _) hz, fin⟩)

theorem strsAre_of : ∀ {ys : List Str} {us : List Value}, Vals (ys.map V.str) us → StrsAre us ys
  | [], _, r => by
    rw [List.map_nil] at r; cases r; exact .nil
  | y :: ys, _, r => by
    rw [List.map_cons] at r
    cases r with
    | cons r1 r2 =>
      obtain ⟨t, e⟩ := r1
      subst e
      exact .cons y t (strsAre_of r2)
noncomputable def rJoin (K : PySem.W.Frag) : V → List V → Hp → VK → Prop := fun x vs H Q => ∃ (z : Str) (l : Addr) (ys : List Str), x = .str z ∧ vs = [.ref l] ∧ SqL K H l (ys.map V.str) ∧ (ys.map (·.length)).sum + ys.length * z.length ≤ 16777216 ∧ Q (.str (Txt.join z ys)) H
theorem mt_join : MtR X "str.join" (rJoin X.K) := by
  intro pins s σ H x vs v us Q I rx rv h
  obtain ⟨z, l, ys, e1, e2, hl, hz, q⟩ := h
  subst e1 e2
  obtain ⟨t, e⟩ := rx
  subst e
  obtain ⟨u, e, ru⟩ := rv.one
  subst e
  cases ru
  obtain ⟨its, r, pl, _⟩ := I.list hl
  exact join_list pl.isList (by simpa using strsAre_of r) hz fun t' k => ⟨.str _, H, I.tok k, ⟨t', rfl⟩, q⟩
end
end L2
set_option Elab.async false
set_option linter.all false
set_option maxRecDepth 100000
set_option maxHeartbeats 4000000
namespace L2
open PySem PySem.Spec PyProof.Rows
inductive EqD (K : PySem.W.Frag) (H : Hp) : Nat → V → V → Bool → Prop
  | flat {n : Nat} {x y : V} : flatV x = true → flatV y = true → EqD K H n x y (eqV x y)
  | same {n : Nat} {a : Addr} : EqD K H n (.ref a) (.ref a) true
  | lists {n : Nat} {a b : Addr} {xs ys : List V} {e : Nat → Bool} : SqL K H a xs → SqL K H b ys → xs.length = ys.length → (∀ (j : Nat) x y, xs[j]? = some x → ys[j]? = some y → EqD K H n x y (e j)) → a ≠ b →
      EqD K H (n + 1) (.ref a) (.ref b) ((List.range xs.length).all e)
  | tups {n : Nat} {a b : Addr} {xs ys : List V} {e : Nat → Bool} : SqT K H a xs → SqT K H b ys → (∀ (j : Nat) x y, xs[j]? = some x → ys[j]? = some y → EqD K H n x y (e j)) → a ≠ b →
      EqD K H (n + 1) (.ref a) (.ref b) ((List.range (min xs.length ys.length)).all e && xs.length == ys.length)
theorem EqD.at {X : Cx} {pins : List (Addr × Obj)} {σ : St} {H : Hp} {s : Shared} (I : Inv X pins σ H s) {n : Nat} {x y : V} {b : Bool} (h : EqD X.K H n x y b) :
    ∀ {A : Around} {u v : Value}, A.units + n < cLine → RelV x u → RelV y v → SeqAt.EqAt A s u v b := by
  induction h with
  | flat fx fy => intro A u v _ rx ry; exact eqAt_V rx ry fx fy
  | same =>
    intro A u v _ rx ry
    cases rx
    cases ry
    exact SeqAt.EqAt.same _
  | @lists n a c xs ys e ha hb hl hi hne ih =>
    intro A u v hu rx ry
    cases rx
    cases ry
    obtain ⟨its, r1, p1, _⟩ := I.list ha
    obtain ⟨its2, r2, p2, _⟩ := I.list hb
    have l1 := r1.length
    have l2 := r2.length
    refine SeqAt.EqAt.of_refs hne ?_
    have q := SeqAt.RcAt.lists (A := A) (e := e) p1.isList p2.isList (by rw [List.size_toArray, List.size_toArray]; omega) (by omega) fun j h1 h2 => by
      rw [List.size_toArray] at h1 h2
      have e1 : xs[j]? = some xs[j] := List.getElem?_eq_getElem (by omega)
      have e2 : ys[j]? = some ys[j] := List.getElem?_eq_getElem (by omega)
      obtain ⟨w1, g1, rr1⟩ := r1.get e1
      obtain ⟨w2, g2, rr2⟩ := r2.get e2
      have g1' : its.toArray[j] = w1 := by
        have := (List.getElem?_eq_some_iff.mp g1).2
        simpa using this
      have g2' : its2.toArray[j] = w2 := by
        have := (List.getElem?_eq_some_iff.mp g2).2
        simpa using this
      rw [g1', g2']
      exact ih j _ _ e1 e2 (by show A.units + 1 + n < cLine; omega) rr1 rr2
    rw [List.size_toArray, ← l1] at q
    exact q
  | @tups n a c xs ys e ha hb hi hne ih =>
    intro A u v hu rx ry
    cases rx
    cases ry
    obtain ⟨its, r1, p1, _⟩ := I.tuple ha
    obtain ⟨its2, r2, p2, _⟩ := I.tuple hb
    have l1 := r1.length
    have l2 := r2.length
    refine SeqAt.EqAt.of_refs hne ?_
    have q := SeqAt.RcAt.tuples (A := A) (e := e) (show s.heap.IsTuple a its.toArray from p1) (show s.heap.IsTuple c its2.toArray from p2) (by omega) fun j h1 h2 => by
      rw [List.size_toArray] at h1 h2
      have e1 : xs[j]? = some xs[j] := List.getElem?_eq_getElem (by omega)
      have e2 : ys[j]? = some ys[j] := List.getElem?_eq_getElem (by omega)
      obtain ⟨w1, g1, rr1⟩ := r1.get e1
      obtain ⟨w2, g2, rr2⟩ := r2.get e2
      have g1' : its.toArray[j] = w1 := by
        have := (List.getElem?_eq_some_iff.mp g1).2
        simpa using this
      have g2' : its2.toArray[j] = w2 := by
        have := (List.getElem?_eq_some_iff.mp g2).2
        simpa using this
      rw [g1', g2']
      exact ih j _ _ e1 e2 (by show A.units + 1 + n < cLine; omega) rr1 rr2
    rw [List.size_toArray, List.size_toArray, ← l1, ← l2] at q
    exact q
section
variable {X : Cx}
theorem EqD.items {pins : List (Addr × Obj)} {σ : St} {H : Hp} {s : Shared} (I : Inv X pins σ H s) {n : Nat} {A : Around} (hu : A.units + 1 + n < cLine) {xs ys : List V} {its its2 : List Value} (r1 : Vals xs its) (r2 : Vals ys its2) {e : Nat → Bool}
    (h : ∀ (j : Nat) x y, xs[j]? = some x → ys[j]? = some y → EqD X.K H n x y (e j)) (j : Nat) (h1 : j < its.toArray.size) (h2 : j < its2.toArray.size) : SeqAt.EqAt A.in1 s its.toArray[j] its2.toArray[j] (e j) := by
  have l1 := r1.length
  have l2 := r2.length
  rw [List.size_toArray] at h1 h2
  have e1 : xs[j]? = some xs[j] := List.getElem?_eq_getElem (by omega)
  have e2 : ys[j]? = some ys[j] := List.getElem?_eq_getElem (by omega)
  obtain ⟨w1, g1, rr1⟩ := r1.get e1
  obtain ⟨w2, g2, rr2⟩ := r2.get e2
  have g1' : its.toArray[j] = w1 := by
    have := (List.getElem?_eq_some_iff.mp g1).2
    simpa using this
  have g2' : its2.toArray[j] = w2 := by
    have := (List.getElem?_eq_some_iff.mp g2).2
    simpa using this
  rw [g1', g2']
  exact EqD.at I (h j _ _ e1 e2) (by show A.units + 1 + n < cLine; exact hu) rr1 rr2
noncomputable def rEqL (K : PySem.W.Frag) (neg : Bool) : R2 := fun x y H Q => ∃ a b xs ys e, x = .ref a ∧ y = .ref b ∧ SqL K H a xs ∧ SqL K H b ys ∧ (∀ (j : Nat) x y, xs[j]? = some x → ys[j]? = some y → EqD K H 8 x y (e j)) ∧
  Q (.bl (if neg then !(xs.length == ys.length && (List.range xs.length).all e) else (xs.length == ys.length && (List.range xs.length).all e))) H
noncomputable def rEqT (K : PySem.W.Frag) (neg : Bool) : R2 := fun x y H Q => ∃ a b xs ys e, x = .ref a ∧ y = .ref b ∧ SqT K H a xs ∧ SqT K H b ys ∧ (∀ (j : Nat) x y, xs[j]? = some x → ys[j]? = some y → EqD K H 8 x y (e j)) ∧
  Q (.bl (if neg then !((List.range (min xs.length ys.length)).all e && xs.length == ys.length) else ((List.range (min xs.length ys.length)).all e && xs.length == ys.length))) H
theorem op_eqL (hu : X.A.units + 64 < cLine) : OpR X (compareOp .Eq) (rEqL X.K false) := by
  intro pins s σ H x y v u Q I rx ry h
  obtain ⟨a, b, xs, ys, e, e1, e2, ha, hb, hi, q⟩ := h
  subst e1 e2
  cases rx
  cases ry
  obtain ⟨its, r1, p1, _⟩ := I.list ha
  obtain ⟨its2, r2, p2, _⟩ := I.list hb
  have l1 := r1.length
  have l2 := r2.length
  by_cases hl : xs.length = ys.length
  · refine SeqAt.eq_listAt (e := e) p1.isList p2.isList (by rw [List.size_toArray, List.size_toArray]; omega) (by omega) (EqD.items I (by omega) r1 r2 hi) ⟨.bl _, H, I, rfl, ?_⟩
    rw [List.size_toArray, ← l1]
    have : (xs.length == ys.length) = true := by simpa using hl
    rw [this] at q
    exact q
  · refine SeqAt.eq_list_lengthsAt p1.isList p2.isList (by rw [List.size_toArray, List.size_toArray, ← l1, ← l2]; simpa using hl) (by omega) ⟨.bl _, H, I, rfl, ?_⟩
    have : (xs.length == ys.length) = false := by simpa using hl
    rw [this] at q
    exact q
theorem op_neT (hu : X.A.units + 64 < cLine) : OpR X (compareOp .NotEq) (rEqT X.K true) := by
  intro pins s σ H x y v u Q I rx ry h
  obtain ⟨a, b, xs, ys, e, e1, e2, ha, hb, hi, q⟩ := h
  subst e1 e2
  cases rx
  cases ry
  obtain ⟨its, r1, p1, _⟩ := I.tuple ha
  obtain ⟨its2, r2, p2, _⟩ := I.tuple hb
  have l1 := r1.length
  have l2 := r2.length
  refine SeqAt.RcNeAt.tuples (e := e) (show s.heap.IsTuple a its.toArray from p1) (show s.heap.IsTuple b its2.toArray from p2) (by omega) (EqD.items I (by omega) r1 r2 hi) _ _ _ _ ⟨.bl _, H, I, rfl, ?_⟩
  rw [List.size_toArray, List.size_toArray, ← l1, ← l2]
  exact q
end
end L2
set_option Elab.async false
set_option linter.all false
set_option maxRecDepth 100000
set_option maxHeartbeats 4000000
namespace L2
open PySem PySem.Spec PyProof.Rows
section
variable {X : Cx}
theorem call_isinst : CallR X (.builtin "isinstance") (fun xs H Q => ∃ x T ty b, xs = [x, .ty T] ∧ TyOf X.K H x ty ∧ PySem.W.kitOne X.K ty (.type T) = some b ∧ Q (.bl b) H) := by
  intro pins s σ H xs us Q I r h
  obtain ⟨x, T, ty, b, e, t, k, q⟩ := h
  subst e
  obtain ⟨u1, u2, e, r1, r2⟩ := vals2 r
  subst e
  cases r2
  exact isinst_ok I r1 t k fun tk => ⟨.bl b, H, I.tok tk, rfl, q⟩
theorem kit_same {K : PySem.W.Frag} (T : String) : PySem.W.kitOne K (.type T) (.type T) = some true := by
  unfold PySem.W.kitOne
  rw [if_pos (by simp)]
theorem all_range (bs : List Bool) : (List.range bs.length).all (fun i => bs.getD i false) = bs.all id := by
  rw [Bool.eq_iff_iff]
  simp only [List.all_eq_true, List.mem_range]
  constructor
  · intro h x hx
    obtain ⟨i, hi, e⟩ := List.mem_iff_getElem.mp hx
    have q := h i hi
    rw [List.getD_eq_getElem?_getD, List.getElem?_eq_getElem hi, Option.getD_some, e] at q
    exact q
  · intro h i hi
    rw [List.getD_eq_getElem?_getD, List.getElem?_eq_getElem hi, Option.getD_some]
    exact h _ (List.getElem_mem hi)
theorem call_all (hc : X.calm = true) : CallR X (.builtin "all") (fun xs H Q => ∃ (l : Addr) (bs : List Bool), xs = [.ref l] ∧ SqL X.K H l (bs.map V.bl) ∧ Q (.bl (bs.all id)) H) := by
  intro pins s σ H xs us Q I r h
  obtain ⟨l, bs, e, hl, q⟩ := h
  subst e
  obtain ⟨u, e, ru⟩ := vals1 r
  subst e
  cases ru
  obtain ⟨its, rv, pl, hz⟩ := I.list hl
  have hlen := rv.length
  rw [List.length_map] at hlen
  have ne : l ≠ s.heap.objs.size := by
    obtain ⟨o, ho, _⟩ := pl.isList
    exact Nat.ne_of_lt (Heap.lt_size ho)
  refine call_all_walk (wpAny_pyIter_list pl.isList ?_)
  refine ⟨s.heap.objs.size, _, _, _, _, _, (fun i => bs.getD i false), rfl, Walks.list (show X.A.in1.handled = none from I.ok.hd hc) s.heap.objs.size l ne its.toArray, ⟨⟨_, Heap.get?_push_size _ rfl, rfl, rfl⟩, pl.isList.push _⟩, ?_, fun h' tk hk => ?_⟩
  · intro i v s' Q' E' hP hQ
    have hP' : its[i]? = some v := by simpa using hP
    have hi : i < bs.length := by
      have := (List.getElem?_eq_some_iff.mp hP').1
      omega
    have e1 : (bs.map V.bl)[i]? = some (.bl (bs.getD i false)) := by
      rw [List.getElem?_map, List.getElem?_eq_getElem hi, List.getD_eq_getElem?_getD, List.getElem?_eq_getElem hi]; rfl
    obtain ⟨u, hu, ru⟩ := rv.get e1
    rw [hP'] at hu
    cases hu
    cases ru
    exact wpAny_truthy_bool hQ
  · have hs : its.toArray.size = bs.length := by rw [List.size_toArray]; exact hlen.symm
    rw [hs, all_range]
    exact ⟨.bl _, H, I.kept fun b o e => hk b o (by
      have := Heap.lt_size e
      simp only [List.mem_singleton]
      exact Nat.ne_of_lt this) (Heap.get?_push_of_some _ e), rfl, q⟩
abbrev tabAt (K : PySem.W.Frag) (T : Addr) (D : List (Str × KTD.Dat)) : Prop := KTD.tabLook (KTD.datLooks fun a => K.lookup a) (fun a => K.lookup a) T D = true
end
end L2
set_option Elab.async false
set_option linter.all false
set_option maxRecDepth 100000
set_option maxHeartbeats 4000000
namespace L2
open PySem PySem.Spec PyProof.Rows

section
variable {X : Cx} {elts : List Expr} {k : Nat} {tpos : Pos}
end
end L2
set_option Elab.async false
set_option linter.all false
set_option maxRecDepth 100000
set_option maxHeartbeats 4000000
namespace L2
open PySem PySem.Spec PyProof.Rows
structure Fn (P : Program) (w : World) (K : PySem.W.Frag) (mg : Str → Option Value) (base : Heap) (x : Str) (ps : List Str) (k : Nat) (sp : Sp) : Prop where
  ex : ∃ f fd, FnOk P w K mg base CX0 k f fd ps sp ∧ mg x = some (.ref f) ∧ PySem.W.keepIn K (.ref f) = true ∧ Binds K fd ps []
section
variable {X : Cx}
theorem pe_fn {x : Str} {ps : List Str} {k : Nat} {sp : Sp} {e : Expr} {es : List Expr} {t : TA} {p pos : Pos} (F : Fn X.prog X.w X.K X.mg X.base x ps k sp) (hr : Room k X.A) (hg : Gl X x) (ha : PA X (e :: es) t)
    (hdb : (x == ("__debug__" : Str)) = false := by decide) (he : starEach (e :: es) X.env = (false, eval e X.env) :: starEach es X.env := by rfl) (hpl : (backTo pos (starEach es X.env)).any (·.1) = false := by rfl) :
    PE X (.Call (.Name x p) (e :: es) [] pos) (tCall sp [] E0 t) := by
  obtain ⟨f, fd, G, hm, hk, hb⟩ := F.ex
  exact pe_call G hr hg hm hk hb .nil pass0 ha hdb he hpl
end
section
variable {σ : St} {H : Hp} {Q : VK} {K : PySem.W.Frag}
theorem i_var {i : Nat} {v : V} (h : σ[i]? = some (some v)) (q : Q v H) : tVar i σ H Q := ⟨v, h, q⟩
theorem i_c {v : V} (q : Q v H) : tC v σ H Q := q
theorem i_op {r : R2} {ta tb : TE} (q : ta σ H fun x H1 => tb σ H1 fun y H2 => r x y H2 Q) : tOp r ta tb σ H Q := q
theorem i_rI0 {g : Int → Int → V} {i j : Int} (q : Q (g i j) H) : rI0 g (.int i) (.int j) H Q := ⟨i, j, rfl, rfl, q⟩
theorem i_rI {C : Int → Int → Prop} {g : Int → Int → V} {i j : Int} (c : C i j) (q : Q (g i j) H) : rI C g (.int i) (.int j) H Q := ⟨i, j, rfl, rfl, c, q⟩
theorem i_eq {x y : V} (h : scal x y = true) (q : Q (.bl (decide (x = y))) H) : rEq x y H Q := ⟨h, q⟩
theorem i_ne {x y : V} (h : scal x y = true) (q : Q (.bl (!decide (x = y))) H) : rNe x y H Q := ⟨h, q⟩
theorem i_test {t : TE} {R : Bool → Hp → Prop} (q : t σ H fun x H' => ∃ k, x = .bl k ∧ R k H') : tTest t σ H R := q
theorem i_tB {t : TE} {R : Bool → Hp → Prop} (q : t σ H fun x H' => ∃ k, x = .bl k ∧ R k H') : tB t σ H R := q
theorem i_and {t u : TT} {R : Bool → Hp → Prop} (q : t σ H fun c H1 => if c = true then u σ H1 R else R false H1) : tAnd t u σ H R := q
theorem i_or {t u : TT} {R : Bool → Hp → Prop} (q : t σ H fun c H1 => if c = true then R true H1 else u σ H1 R) : tOr t u σ H R := q
theorem i_not {t : TT} {R : Bool → Hp → Prop} (q : t σ H fun c H1 => R (!c) H1) : tNot t σ H R := q
theorem i_andV {ta tb : TE} (q : ta σ H fun x H1 => ∃ c, x = .bl c ∧ if c = true then tb σ H1 Q else Q (.bl false) H1) : tAndV ta tb σ H Q := q
theorem i_orV {ta tb : TE} (q : ta σ H fun x H1 => ∃ c, x = .bl c ∧ if c = true then Q (.bl true) H1 else tb σ H1 Q) : tOrV ta tb σ H Q := q
theorem i_notV {ta : TE} (q : ta σ H fun x H1 => ∃ c, x = .bl c ∧ Q (.bl (!c)) H1) : tNotV ta σ H Q := q
theorem i_ifE {t : TT} {ta tb : TE} (q : t σ H fun c H1 => if c = true then ta σ H1 Q else tb σ H1 Q) : tIf t ta tb σ H Q := q
theorem i_nil {R : List V → Hp → Prop} (q : R [] H) : tNil σ H R := q
theorem i_cons {te : TE} {tr : TA} {R : List V → Hp → Prop} (q : te σ H fun x H1 => tr σ H1 fun xs H2 => R (x :: xs) H2) : tCons te tr σ H R := q
theorem i_call {sp : Sp} {E : XK} {t : TA} (q : t σ H fun vs H1 => sp vs H1 Q E) : tCall sp [] E t σ H Q := by
  show t σ H fun vs H1 => sp (vs ++ []) H1 Q E
  simpa only [List.append_nil] using q
theorem i_cb {r : List V → Hp → VK → Prop} {t : TA} (q : t σ H fun vs H1 => r vs H1 Q) : tCB r t σ H Q := q
theorem i_tup {t : TA} (q : t σ H fun xs H1 => xs.length ≤ sizeLine ∧ ∀ p, H1 p = none → Q (.ref p) (upd H1 p (.tup xs))) : tTup t σ H Q := q
theorem i_lst {t : TA} (q : t σ H fun xs H1 => xs.length ≤ sizeLine ∧ ∀ p, H1 p = none → Q (.ref p) (upd H1 p (.lst xs))) : tLst t σ H Q := q
theorem i_bm {T : String} {r : V → List V → Hp → VK → Prop} {to : TE} {t : TA} (q : to σ H fun x H1 => tyV K T x H1 ∧ t σ H1 fun xs H2 => r x xs H2 Q) : tBM K T r to t σ H Q := q
theorem i_sl {r : V → Option Int → Option Int → Hp → VK → Prop} {te : TE} {tl th : TO} (q : te σ H fun x H1 => tl σ H1 fun l H2 => th σ H2 fun u H3 => r x l u H3 Q) : tSl r te tl th σ H Q := q
theorem i_nopart {R : Option Int → Hp → Prop} (q : R none H) : tNoPart σ H R := q
theorem i_part {t : TE} {R : Option Int → Hp → Prop} (q : t σ H fun x H1 => ∃ i, x = .int i ∧ R (some i) H1) : tPart t σ H R := q
theorem i_ixL {p : Addr} {xs : List V} {i : Int} {v : V} (h : SqL K H p xs) (e : atI xs i = some v) (q : Q v H) : rIxL K (.ref p) (.int i) H Q := ⟨p, xs, i, v, rfl, rfl, h, e, q⟩
theorem i_ixT {p : Addr} {xs : List V} {i : Int} {v : V} (h : H p = some (.tup xs)) (e : atI xs i = some v) (q : Q v H) : rIxT K (.ref p) (.int i) H Q := ⟨p, xs, i, v, rfl, rfl, SqT.of h, e, q⟩
theorem i_ixS {z : Str} {i : Int} {c : Nat} (hz : z.length ≤ sizeLine) (e : atI z.cps.toList i = some c) (q : Q (.str ⟨#[c]⟩) H) : rIxS (.str z) (.int i) H Q := ⟨z, i, c, rfl, rfl, hz, e, q⟩
variable {D : Ends}
theorem s_seq {t u : TS} (q : t { D with nx := u D } σ H) : tSeq t u D σ H := q
theorem s_asg {te : TE} {g : TG} (q : te σ H fun x H1 => g x σ H1 D.nx) : tAsg te g D σ H := q
theorem s_name {i : Nat} {v : V} {R : St → Hp → Prop} (q : R (σ.set i (some v)) H) : gName i v σ H R := q
theorem s_drop {te : TE} (q : te σ H fun _ H1 => D.nx σ H1) : tDrop te D σ H := q
theorem s_ret {te : TE} (q : te σ H D.rt) : tRet te D σ H := q
theorem s_next (q : D.nx σ H) : tNext D σ H := q
theorem s_if {c : TT} {t u : TS} (q : c σ H fun b H1 => if b = true then t D σ H1 else u D σ H1) : tIfS c t u D σ H := q
theorem s_sub {to ti : TE} {t : TSet} {v : V} {R : St → Hp → Prop} (q : to σ H fun o H1 => ti σ H1 fun i H2 => t o i v H2 fun H3 => R σ H3) : gSub to ti t v σ H R := q
theorem s_setL {p : Addr} {xs : List V} {k : Int} {j : Nat} {v : V} {R : Hp → Prop} (h : H p = some (.lst xs)) (e : ixN xs.length k = some j) (q : R (upd H p (.lst (xs.set j v)))) : rSetL (.ref p) (.int k) v H R := ⟨p, xs, k, j, rfl, rfl, h, e, q⟩
theorem s_for {wi : TI} {g : TG} {tb : TS} (q : wi σ H fun J H1 => ∃ W : Nat → Nat → St → Hp → Prop, (∃ m, W 0 m σ H1) ∧ ∀ i m σ H, W i m σ H →
  (J.stop i H ∧ D.nx σ H) ∨ (J.go i H ∧ ∃ N : St → Hp → Prop, (∀ σ' H', N σ' H' → ∃ m', m' < m ∧ W (i + 1) m' σ' H') ∧ ∀ x H', J.yld i H x H' → g x σ H' fun σ2 H2 => tb { D with nx := N, ct := N, bk := D.nx } σ2 H2)) : tFor wi g tb D σ H := q
theorem s_rng1 {ta : TA} {R : It → Hp → Prop} (q : ta σ H fun vs H1 => ∃ j : Int, vs = [.int j] ∧ -(2 ^ 62) ≤ j ∧ j < 2 ^ 62 ∧ R (Itr 0 j.toNat) H1) : iRng1 ta σ H R := q
theorem s_list {tl : TE} {R : It → Hp → Prop} (q : tl σ H fun x H1 => ∃ a, x = .ref a ∧ (∃ xs, SqL K H1 a xs) ∧ R (Itl K a) H1) : iList K tl σ H R := q
theorem s_str {tl : TE} {R : It → Hp → Prop} (q : tl σ H fun v H1 => ∃ z : Str, v = .str z ∧ R (Itf z.cps.size (signV z)) H1) : iStr tl σ H R := q
theorem s_strI {z : Str} {R : It → Hp → Prop} (q : R (Itf z.cps.size (signV z)) H) : ∃ y : Str, V.str z = .str y ∧ R (Itf y.cps.size (signV y)) H := ⟨z, rfl, q⟩
theorem i_comp {wi : TI} {g : TG} {tt : TT} {te : TE} {f : St → St} (q : wi σ H fun J H1 => ∀ D, H1 D = none → ∃ W : Nat → Nat → Hp → List V → Prop, (∃ m, W 0 m (upd H1 D (.lst [])) []) ∧
  ∀ i m H ys, W i m H ys → H D = some (.lst ys) ∧ ((J.stop i H ∧ Q (.ref D) H) ∨ (J.go i H ∧ ∀ x H', J.yld i H x H' → g x (f σ) H' fun σ2 H2 => wk (f σ) σ2 ∧ tt σ2 H2 fun b H3 =>
    if b = true then te σ2 H3 fun v H4 => H4 D = some (.lst ys) ∧ ys.length < sizeLine ∧ ∃ m', m' < m ∧ W (i + 1) m' (upd H4 D (.lst (ys ++ [v]))) (ys ++ [v])
    else ∃ m', m' < m ∧ W (i + 1) m' H3 ys))) : tComp wi g tt te f σ H Q := q
end
noncomputable def NextC (Pv : Nat → Hp → List V → Prop) (n : Nat) (D : Addr) (i : Nat) (ys : List V) : VK := fun v H4 => H4 D = some (.lst ys) ∧ ys.length < sizeLine ∧ ∃ m', m' < n - i ∧ (m' = n - (i + 1) ∧ i + 1 ≤ n ∧ Pv (i + 1) (upd H4 D (.lst (ys ++ [v]))) (ys ++ [v]))
theorem NextC.mk {Pv : Nat → Hp → List V → Prop} {n : Nat} {D : Addr} {i : Nat} {ys : List V} {v : V} {H4 : Hp} (hd : H4 D = some (.lst ys)) (hi : i < n) (hl : ys.length < sizeLine) (p : Pv (i + 1) (upd H4 D (.lst (ys ++ [v]))) (ys ++ [v])) : NextC Pv n D i ys v H4 :=
  ⟨hd, hl, n - (i + 1), by omega, rfl, hi, p⟩
section
variable {K : PySem.W.Frag} {g : TG} {te : TE} {σ0 : St} {QD : Hp → Prop} {H1 : Hp} {D : Addr}
theorem comp_list {a : Addr} {xs : List V} (Pv : Nat → Hp → List V → Prop) (h0 : Pv 0 (upd H1 D (.lst [])) []) (hD : ∀ i H ys, Pv i H ys → H D = some (.lst ys) ∧ SqL K H a xs)
    (hs : ∀ i x H ys, xs[i]? = some x → Pv i H ys → g x σ0 H fun σ2 H2 => wk σ0 σ2 ∧ tYes σ2 H2 fun b H3 => if b = true then te σ2 H3 (NextC Pv xs.length D i ys) else ∃ m', m' < xs.length - i ∧ (m' = xs.length - (i + 1) ∧ i + 1 ≤ xs.length ∧ Pv (i + 1) H3 ys)) (hd : ∀ H ys, Pv xs.length H ys → QD H) :
    ∃ W : Nat → Nat → Hp → List V → Prop, (∃ m, W 0 m (upd H1 D (.lst [])) []) ∧ ∀ i m H ys, W i m H ys → H D = some (.lst ys) ∧ (((Itl K a).stop i H ∧ QD H) ∨ ((Itl K a).go i H ∧ ∀ x H', (Itl K a).yld i H x H' → g x σ0 H' fun σ2 H2 => wk σ0 σ2 ∧ tYes σ2 H2 fun b H3 =>
      if b = true then te σ2 H3 fun v H4 => H4 D = some (.lst ys) ∧ ys.length < sizeLine ∧ ∃ m', m' < m ∧ W (i + 1) m' (upd H4 D (.lst (ys ++ [v]))) (ys ++ [v]) else ∃ m', m' < m ∧ W (i + 1) m' H3 ys)) := by
  refine ⟨fun i m H ys => m = xs.length - i ∧ i ≤ xs.length ∧ Pv i H ys, ⟨xs.length, by simp, Nat.zero_le _, h0⟩, ?_⟩
  rintro i m H ys ⟨rfl, hi, p⟩
  obtain ⟨d1, d2⟩ := hD i H ys p
  refine ⟨d1, ?_⟩
  by_cases hlt : i < xs.length
  · refine .inr ⟨⟨xs, xs[i], d2, by simp [hlt]⟩, fun x H' y => ?_⟩
    obtain ⟨e, y⟩ := y
    subst e
    exact hs i x _ ys (y xs d2) p
  · have e : i = xs.length := by omega
    subst e
    exact .inl ⟨⟨xs, d2, Nat.le_refl _⟩, hd H ys p⟩
theorem comp_itf {n : Nat} {f : Nat → V} (Pv : Nat → Hp → List V → Prop) (h0 : Pv 0 (upd H1 D (.lst [])) []) (hD : ∀ i H ys, Pv i H ys → H D = some (.lst ys))
    (hs : ∀ i H ys, i < n → Pv i H ys → g (f i) σ0 H fun σ2 H2 => wk σ0 σ2 ∧ tYes σ2 H2 fun b H3 => if b = true then te σ2 H3 (NextC Pv n D i ys) else ∃ m', m' < n - i ∧ (m' = n - (i + 1) ∧ i + 1 ≤ n ∧ Pv (i + 1) H3 ys)) (hd : ∀ H ys, Pv n H ys → QD H) :
    ∃ W : Nat → Nat → Hp → List V → Prop, (∃ m, W 0 m (upd H1 D (.lst [])) []) ∧ ∀ i m H ys, W i m H ys → H D = some (.lst ys) ∧ (((Itf n f).stop i H ∧ QD H) ∨ ((Itf n f).go i H ∧ ∀ x H', (Itf n f).yld i H x H' → g x σ0 H' fun σ2 H2 => wk σ0 σ2 ∧ tYes σ2 H2 fun b H3 =>
      if b = true then te σ2 H3 fun v H4 => H4 D = some (.lst ys) ∧ ys.length < sizeLine ∧ ∃ m', m' < m ∧ W (i + 1) m' (upd H4 D (.lst (ys ++ [v]))) (ys ++ [v]) else ∃ m', m' < m ∧ W (i + 1) m' H3 ys)) := by
  refine ⟨fun i m H ys => m = n - i ∧ i ≤ n ∧ Pv i H ys, ⟨n, by simp, Nat.zero_le _, h0⟩, ?_⟩
  rintro i m H ys ⟨rfl, hi, p⟩
  refine ⟨hD i H ys p, ?_⟩
  by_cases hlt : i < n
  · refine .inr ⟨hlt, fun x H' y => ?_⟩
    obtain ⟨e, y⟩ := y
    subst e y
    exact hs i _ ys hlt p
  · have e : i = n := by omega
    subst e
    exact .inl ⟨rfl, hd H ys p⟩
end
end L2
namespace L2
open PySem PySem.Spec PyProof.Rows
section
variable {H : Hp} {Q : VK} {K : PySem.W.Frag}
theorem i_slS {z : Str} {lo hi : Option Int} (h : z.length ≤ sizeLine) (q : Q (.str (Txt.slice z lo hi)) H) : rSlS (.str z) lo hi H Q := ⟨z, rfl, h, q⟩
theorem i_slL {a : Addr} {xs : List V} {lo hi : Option Int} (h : SqL K H a xs) (q : ∀ p, H p = none → Q (.ref p) (upd H p (.lst (cutV xs lo hi)))) : rSlL K (.ref a) lo hi H Q := ⟨a, xs, rfl, h, q⟩
theorem i_cat {l b : Addr} {xs zs : List V} (h1 : H l = some (.lst xs)) (h2 : H b = some (.lst zs)) (hz : xs.length + zs.length ≤ sizeLine) (q : ∀ p, H p = none → Q (.ref p) (upd H p (.lst (xs ++ zs)))) : rCat (.ref l) (.ref b) H Q := ⟨l, b, xs, zs, rfl, rfl, h1, h2, hz, q⟩
theorem i_app {l : Addr} {xs : List V} {y : V} (h : H l = some (.lst xs)) (hz : xs.length < sizeLine) (q : Q .non (upd H l (.lst (xs ++ [y])))) : rAppend (.ref l) [y] H Q := ⟨l, xs, y, rfl, rfl, h, hz, q⟩
theorem i_tyL {p : Addr} {xs : List V} (h : H p = some (.lst xs)) : tyV K "list" (.ref p) H := .inl ⟨rfl, xs, SqL.of h⟩
theorem i_tyS {z : Str} : tyV K "str" (.str z) H := rfl
theorem i_join {z : Str} {l : Addr} {ys : List Str} (h : H l = some (.lst (ys.map V.str))) (hz : (ys.map (·.length)).sum + ys.length * z.length ≤ 16777216) (q : Q (.str (Txt.join z ys)) H) : rJoin K (.str z) [.ref l] H Q := ⟨z, l, ys, rfl, rfl, SqL.of h, hz, q⟩
end
theorem fresh_same {H : Hp} {p : Addr} {o : HO} (hp : H p = none) : Same H (upd H p o) := fun b u e => by rw [upd_ne (ne_of_none e hp)]; exact e
end L2
set_option Elab.async false
set_option linter.all false
set_option maxRecDepth 100000
set_option maxHeartbeats 4000000
namespace LZ
open PySem
section
variable {prog : Program} {w : World} {A : Around} {E : Value → Shared → Prop} {s : Shared}
abbrev IsZ (h : Heap) (z TI TO : Addr) (f0 : Value) (f1 : Bool) : Prop :=
  h.get? z = some { cls := .type "zip", dict := none, data := .fields #[f0, .bool f1, .bool false, .ref TI, .ref TO], slots := #[] }
structure Apart5 (z TI TO i1 i2 l : Addr) : Prop where
  TIz : TI ≠ z
  TOz : TO ≠ z
  i1z : i1 ≠ z
  i2z : i2 ≠ z
  TITO : TI ≠ TO
  TIi1 : TI ≠ i1
  TIi2 : TI ≠ i2
  TOi1 : TO ≠ i1
  TOi2 : TO ≠ i2
  i12 : i1 ≠ i2
  lz : l ≠ z
  lTO : l ≠ TO
  li1 : l ≠ i1
  li2 : l ≠ i2


end
end LZ
set_option Elab.async false
set_option linter.all false
set_option maxRecDepth 100000
set_option maxHeartbeats 4000000
namespace LZ
open PySem
structure ApartD (z TI TO i1 i2 l d : Addr) : Prop extends Apart5 z TI TO i1 i2 l where
  dz : d ≠ z
  dTI : d ≠ TI
  dTO : d ≠ TO
  di1 : d ≠ i1
  di2 : d ≠ i2
  dl : d ≠ l
structure ZS (h : Heap) (z TI TO i1 i2 l d : Addr) (ty : String) (x : Str) (t : Tok) (xs : Array Value) (k : Nat) : Prop where
  zf : (IsZ h z TI TO .none false ∧ ∃ a b, IsPair h TO a b) ∨ ∃ (T : Addr) (f1 : Bool) (oT : Obj), IsZ h z TI TO (rawInt (T : Nat)) f1 ∧ h.get? T = some oT ∧ T ≠ z ∧ T ≠ i1 ∧ T ≠ i2 ∧ T ≠ d
  ti : IsPair h TI (.ref i1) (.ref i2)
  a1 : h.IsListIter i1 l k
  a2 : h.IsStrIter i2 ty x t k
  li : h.IsList l xs
section
variable {prog : Program} {w : World} {K : Type} [DecidableEq K] {knd : KeyKind prog w K} {A : Around} {R : Result → Shared → Prop}
theorem ZS.dict {h h' : Heap} {z TI TO i1 i2 l d : Addr} {ty : String} {x : Str} {t : Tok} {xs : Array Value} {k : Nat} (D : ApartD z TI TO i1 i2 l d) (Z : ZS h z TI TO i1 i2 l d ty x t xs k) (hs : Heap.SameBut d h h') : ZS h' z TI TO i1 i2 l d ty x t xs k := by
  refine ⟨?_, hs.extBut _ _ D.dTI.symm Z.ti, Z.a1.extBut hs.extBut D.di1.symm, Z.a2.extBut hs.extBut D.di2.symm, Z.li.extBut hs.extBut D.dl.symm⟩
  rcases Z.zf with ⟨hz, a, b, hTO⟩ | ⟨T, f1, oT, hz, hT, n1, n2, n3, n4⟩
  · exact .inl ⟨hs.extBut _ _ D.dz.symm hz, a, b, hs.extBut _ _ D.dTO.symm hTO⟩
  · exact .inr ⟨T, f1, oT, hs.extBut _ _ D.dz.symm hz, hs.extBut _ _ n4 hT, n1, n2, n3, n4⟩
end
end LZ
set_option Elab.async false
set_option linter.all false
set_option maxRecDepth 100000
set_option maxHeartbeats 4000000
namespace L2
open PySem PySem.Spec PyProof.Rows
section
variable {X : Cx} {a b : Expr} {ta : TA} {p1 p2 pos1 pos2 : Pos}
end
end L2
set_option Elab.async false
set_option linter.all false
set_option maxRecDepth 100000
set_option maxHeartbeats 4000000
namespace L2
open PySem PySem.Spec PyProof.Rows
section
variable {X : Cx}
end
end L2
set_option Elab.async false
set_option linter.all false
set_option maxRecDepth 100000
set_option maxHeartbeats 4000000
namespace L2
open PySem PySem.Spec PyProof.Rows
section
variable {X : Cx}
end
end L2
set_option Elab.async false
set_option linter.all false
set_option maxRecDepth 100000
set_option maxHeartbeats 4000000
namespace LZ
open PySem
section
variable {prog : Program} {w : World} {A : Around} {E : Value → Shared → Prop} {s : Shared}
end
section
variable {prog : Program} {w : World} {K : Type} [DecidableEq K] {knd : KeyKind prog w K} {A : Around} {R : Result → Shared → Prop}
noncomputable def PairsAt (h : Heap) (xs : Array Value) (ka va : Nat → Value) (it d : Addr) : Prop := ∀ k, k < xs.size → ∃ (T : Addr) (o : Obj) (n : Nat), xs[k]? = some (.ref T) ∧ h.get? T = some o ∧ o.cls = .type "tuple" ∧ o.data = .seq #[ka k, va k] n ∧ T ≠ it ∧ T ≠ d
theorem PairsAt.keep {h h' : Heap} {xs : Array Value} {ka va : Nat → Value} {it d : Addr} (p : PairsAt h xs ka va it d) (hk : ∀ c o, c ≠ it → c ≠ d → h.get? c = some o → h'.get? c = some o) : PairsAt h' xs ka va it d := fun k hlt =>
  let ⟨T, o, n, e1, e2, e3, e4, e5, e6⟩ := p k hlt; ⟨T, o, n, e1, hk T o e5 e6 e2, e3, e4, e5, e6⟩
end
end LZ
set_option Elab.async false
set_option linter.all false
set_option maxRecDepth 100000
set_option maxHeartbeats 4000000
namespace L2
open PySem PySem.Spec PyProof.Rows
section
variable {X : Cx} {a : Expr} {ta : TA} {p1 pos1 : Pos}
end
end L2
set_option Elab.async false
set_option linter.all false
set_option maxRecDepth 100000
set_option maxHeartbeats 4000000
namespace L2
open PySem PySem.Spec PyProof.Rows
abbrev partsD : List (Str × KTD.Dat) := [("wire", .flat (.int 2)), ("not", .flat (.int 2)), ("and", .flat (.int 3)), ("or", .flat (.int 3))]
noncomputable def partsN : List (Str × Int) := [("wire", 2), ("not", 2), ("and", 3), ("or", 3)]
noncomputable def tParts (ty : TE) : TE := fun σ H Q => ty σ H fun y H1 => ∃ p ∈ partsN, y = .str p.1 ∧ Q (.int p.2) H1
section
variable {X : Cx} {o e : Expr} {apos cpos : Pos} {ty : TE} {T : Addr}
theorem pe_parts (hT : tabAt X.K T partsD) (ho : PE X o (tC (.ref T))) (he : PE X e ty) (m : M1 X o "get" apos e cpos) : PE X (.Call (.Attribute o "get" apos) [e] [] cpos) (tParts ty) := by
  intro pins s σ H Q I h
  refine wpAny_Call_method m.base m.few m.line PySem.F.plainAttrs_dict PySem.F.slot_dict_get PySem.F.type_dict_get (thn (ho pins s σ H (fun x H1 => x = .ref T ∧ H1 = H) I ⟨rfl, rfl⟩) fun u s1 z => ?_)
  obtain ⟨x, H1, I1, rx, ex, eh⟩ := z
  subst ex eh
  obtain rfl : u = Value.ref T := rx
  have here : ∀ {s' : Shared} {H' : Hp}, Inv X pins σ H' s' → KTD.Here X.base s'.heap T partsD := fun J => ⟨KTD.text_of_look (get := fun a => X.K.lookup a) (fun a o e => J.mod.kin a o e) hT, J.bk⟩
  refine ⟨(here I1).typeIs, (here I1).noDict, ?_⟩
  rw [m.trees]
  refine Calls.callWith_builtin rfl (Calls.evalArgs_plain (Calls.spliced_cons (thn (he pins s1 σ H1 _ I1 h) fun iv s2 z => Calls.spliced_nil ?_)))
  obtain ⟨y, H2, I2, ry, p, hp, ey, q2⟩ := z
  subst ey
  obtain ⟨t, e⟩ := ry
  subst e
  simp only [partsN, List.mem_cons, List.not_mem_nil, or_false] at hp
  rcases hp with e | e | e | e
  all_goals (subst e; refine KTD.get1_textL (here I2) (by decide +kernel) ?_)
  · simp only [KTD.EachL, show decide (("wire" : Str) = "wire") = true by decide +kernel, if_true]
    exact fun t => ⟨.int 2, H2, I2.tok _, ⟨_, rfl⟩, q2⟩
  · simp only [KTD.EachL, show decide (("not" : Str) = "wire") = false by decide +kernel, show decide (("not" : Str) = "not") = true by decide +kernel, if_true, Bool.false_eq_true, if_false]
    exact fun t => ⟨.int 2, H2, I2.tok _, ⟨_, rfl⟩, q2⟩
  · simp only [KTD.EachL, show decide (("and" : Str) = "wire") = false by decide +kernel, show decide (("and" : Str) = "not") = false by decide +kernel, show decide (("and" : Str) = "and") = true by decide +kernel, if_true, Bool.false_eq_true, if_false]
    exact fun t => ⟨.int 3, H2, I2.tok _, ⟨_, rfl⟩, q2⟩
  · simp only [KTD.EachL, show decide (("or" : Str) = "wire") = false by decide +kernel, show decide (("or" : Str) = "not") = false by decide +kernel, show decide (("or" : Str) = "and") = false by decide +kernel, Bool.false_eq_true, if_false]
    exact fun _ t => ⟨.int 3, H2, I2.tok _, ⟨_, rfl⟩, q2⟩
end
end L2
set_option Elab.async false
set_option linter.all false
namespace L2
open PySem PySem.Spec PyProof.Rows
section
variable {K : PySem.W.Frag} {g : TG} {te : TE} {σ0 : St} {QD : Hp → Prop} {H1 : Hp} {D : Addr}
theorem comp_tup {a : Addr} {xs : List V} (Pv : Nat → Hp → List V → Prop) (h0 : Pv 0 (upd H1 D (.lst [])) []) (hD : ∀ i H ys, Pv i H ys → H D = some (.lst ys) ∧ SqT K H a xs)
    (hs : ∀ i x H ys, xs[i]? = some x → Pv i H ys → g x σ0 H fun σ2 H2 => wk σ0 σ2 ∧ tYes σ2 H2 fun b H3 => if b = true then te σ2 H3 (NextC Pv xs.length D i ys) else ∃ m', m' < xs.length - i ∧ (m' = xs.length - (i + 1) ∧ i + 1 ≤ xs.length ∧ Pv (i + 1) H3 ys)) (hd : ∀ H ys, Pv xs.length H ys → QD H) :
    ∃ W : Nat → Nat → Hp → List V → Prop, (∃ m, W 0 m (upd H1 D (.lst [])) []) ∧ ∀ i m H ys, W i m H ys → H D = some (.lst ys) ∧ (((Itt K a).stop i H ∧ QD H) ∨ ((Itt K a).go i H ∧ ∀ x H', (Itt K a).yld i H x H' → g x σ0 H' fun σ2 H2 => wk σ0 σ2 ∧ tYes σ2 H2 fun b H3 =>
      if b = true then te σ2 H3 fun v H4 => H4 D = some (.lst ys) ∧ ys.length < sizeLine ∧ ∃ m', m' < m ∧ W (i + 1) m' (upd H4 D (.lst (ys ++ [v]))) (ys ++ [v]) else ∃ m', m' < m ∧ W (i + 1) m' H3 ys)) := by
  refine ⟨fun i m H ys => m = xs.length - i ∧ i ≤ xs.length ∧ Pv i H ys, ⟨xs.length, by simp, Nat.zero_le _, h0⟩, ?_⟩
  rintro i m H ys ⟨rfl, hi, p⟩
  obtain ⟨d1, d2⟩ := hD i H ys p
  refine ⟨d1, ?_⟩
  by_cases hlt : i < xs.length
  · refine .inr ⟨⟨xs, xs[i], d2, by simp [hlt]⟩, fun x H' y => ?_⟩
    obtain ⟨e, y⟩ := y
    subst e
    exact hs i x _ ys (y xs d2) p
  · have e : i = xs.length := by omega
    subst e
    exact .inl ⟨⟨xs, d2, Nat.le_refl _⟩, hd H ys p⟩
theorem s_tup {σ : St} {H : Hp} {tl : TE} {R : It → Hp → Prop} (q : tl σ H fun x H1 => ∃ a, x = .ref a ∧ (∃ xs, SqT K H1 a xs) ∧ R (Itt K a) H1) : iTup K tl σ H R := q
end
end L2
set_option Elab.async false
set_option linter.all false
set_option maxRecDepth 100000
set_option maxHeartbeats 4000000
namespace L2
open PySem PySem.Spec PyProof.Rows
section
variable {X : Cx}
noncomputable def tRev (K : PySem.W.Frag) (te : TE) : TE := fun σ H Q => te σ H fun x H1 => ∃ a xs, x = .ref a ∧ SqL K H1 a xs ∧ ∀ p, H1 p = none → Q (.ref p) (upd H1 p (.lst xs.reverse))
theorem pe_rev {e st : Expr} {te ts : TE} {p2 pos : Pos} (he : PE X e te) (hst : PE X st ts) (h1 : ∀ σ H (Q : VK), Q (.int (-1)) H → ts σ H Q) : PE X (.Subscript e (.Slice none none (some st) p2) pos) (tRev X.K te) := by
  intro pins s σ H Q I h
  refine Subscript_ (thn (he pins s σ H _ I h) fun v s1 ⟨x, H1, I1, r1, q1⟩ => ?_)
  refine wpAny_Slice ?_
  rw [evalPart_none]
  refine wpAny_pure ?_
  refine wpAny_pure ?_
  rw [evalPart_some]
  refine thn (hst pins s1 σ H1 (fun y H2 => y = .int (-1) ∧ H2 = H1) I1 (h1 _ _ _ ⟨rfl, rfl⟩)) fun vk s3 ⟨y, H3, I3, r3, e1, e2⟩ => ?_
  subst e1 e2
  obtain ⟨t, rfl⟩ := r3
  obtain ⟨a, xs, rfl, hx, q⟩ := q1
  cases r1
  have I4 : Inv X pins σ H3 { s3 with heap := s3.heap.push { cls := .type "slice", data := .fields #[.none, .none, .int (-1) t] } } := I3.kept (t' := s3.toks) fun b ob q => Heap.get?_push_of_some _ q
  obtain ⟨its, r, ht, hz⟩ := I4.list hx
  have hlen := r.length
  refine tail_any (ops := [.ref a, .ref s3.heap.objs.size]) ht.isList.typeIs slot_list_getitem.lookup ?_ (by with_unfolding_all rfl)
  refine wpAny_getItem_list_slice ht.isList (Heap.IsSliceOf.new ..) .none .none (.int _ _) (by decide) ?_ (by rw [List.size_toArray] <;> omega)
  rw [PySem.W.krv_pick]
  refine ⟨.ref (s3.heap.push { cls := .type "slice", data := .fields #[.none, .none, .int (-1) t] }).objs.size, _, I4.laid (t' := s3.toks) (o := .lst xs.reverse) (fun b ob q => Heap.get?_push_of_some _ q) (Nat.le_refl _) ?_, rfl, q _ (I4.hok.fresh (Nat.le_refl _))⟩
  exact ⟨by rw [List.length_reverse]; exact hz, _, 0, r.reverse, Heap.get?_push_size _ rfl⟩
theorem vals_strs : ∀ (l : List (Str × Tok)), Vals ((l.map (·.1)).map V.str) (strValues l)
  | [] => .nil
  | p :: r => .cons ⟨p.2, rfl⟩ (vals_strs r)
noncomputable def rSplit : V → List V → Hp → VK → Prop := fun x vs H Q => ∃ (z y : Str), x = .str z ∧ vs = [.str y] ∧ (y.length == 0) = false ∧ z.length + 2 ≤ sizeLine ∧ ∀ p, H p = none → Q (.ref p) (upd H p (.lst ((Txt.split z y).map V.str)))
theorem mt_split : MtR X "str.split" rSplit := by
  intro pins s σ H x vs v us Q I rx rv h
  obtain ⟨z, y, rfl, rfl, hy, hsz, q⟩ := h
  obtain ⟨t, rfl⟩ := rx
  obtain ⟨u1, rfl, u, rfl⟩ := vals1 rv
  have hn : (Builtin.Str.partsBetween z (Builtin.Str.occurrences z y 0 z.length (z.length + 1)) y.length).length ≤ sizeLine := by
    have e1 := StrLaws.occ_length_le z y 0 z.length (z.length + 1)
    rw [length_partsBetween]; omega
  have fin : ∀ (l : List (Str × Tok)) (k : Nat), l.map (·.1) = Txt.split z y → l.length ≤ sizeLine → EP X pins σ Q (.ref s.heap.objs.size) { s with toks := k, heap := s.heap.push { cls := .type "list", data := .seq (strValues l).toArray } } := fun l k e hl => by
    refine ⟨.ref s.heap.objs.size, _, I.laid (t' := k) (o := .lst ((Txt.split z y).map V.str)) (fun b ob q => Heap.get?_push_of_some _ q) (Nat.le_refl _) ?_, rfl, q _ (I.hok.fresh (Nat.le_refl _))⟩
    rw [← e]
    exact ⟨by rw [List.length_map, List.length_map]; exact hl, _, 0, vals_strs l, Heap.get?_push_size _ rfl⟩
  have one : 1 ≤ sizeLine := by decide
  cases h1 : (decide (z.length < y.length) || decide (Builtin.Str.strKind z < Builtin.Str.strKind y))
  · cases hf : (Builtin.Str.occurrences z y 0 z.length (z.length + 1)).isEmpty
    · refine call_meets F.slot_str_split (typeIs_str _ _ _) F.entry_str_split (F.args_str_split_2 _ _) (meets_str_split_sep z y t u h1 hy hf (by omega) hn) ?_
      show wants _ _ _ { s with toks := _, heap := s.heap.push { cls := .type "list", data := .seq (strsFrom s.toks (Builtin.Str.partsBetween z (Builtin.Str.occurrences z y 0 z.length (z.length + 1)) y.length)).toArray } }
      rw [strsFrom_eq]
      have e := (numbered_texts s.toks (Builtin.Str.partsBetween z (Builtin.Str.occurrences z y 0 z.length (z.length + 1)) y.length))
      refine fin (numbered s.toks _) _ (e.trans ((if_neg (ne_true_of_eq_false h1)).trans (if_neg (ne_true_of_eq_false hf))).symm) ?_
      have e2 := congrArg List.length e
      rw [List.length_map] at e2
      omega
    · exact call_meets F.slot_str_split (typeIs_str _ _ _) F.entry_str_split (F.args_str_split_2 _ _) (meets_str_split_not_found z y t u h1 hy hf)
        (fin [(z, t)] s.toks ((if_neg (ne_true_of_eq_false h1)).trans (if_pos hf)).symm one)
  · exact call_meets F.slot_str_split (typeIs_str _ _ _) F.entry_str_split (F.args_str_split_2 _ _) (meets_str_split_cannot_occur z y t u h1)
      (fin [(z, t)] s.toks (if_pos h1).symm one)
noncomputable def rPartition : V → List V → Hp → VK → Prop := fun x vs H Q => ∃ (z y : Str) (i : Nat) (r : List Nat), x = .str z ∧ vs = [.str y] ∧ (y.length == 0) = false ∧ z.length ≤ sizeLine ∧ Builtin.Str.occurrences z y 0 z.length 1 = i :: r ∧
  ∀ p, H p = none → Q (.ref p) (upd H p (.tup [.str (Builtin.Str.strSub z 0 i), .str y, .str (Builtin.Str.strSub z (i + y.length) z.length)]))
theorem mt_partition : MtR X "str.partition" rPartition := by
  intro pins s σ H x vs v us Q I rx rv h
  obtain ⟨z, y, i, r, rfl, rfl, hy, hsz, ho, q⟩ := h
  obtain ⟨t, rfl⟩ := rx
  obtain ⟨u1, rfl, u, rfl⟩ := vals1 rv
  refine call_meets F.slot_str_partition (typeIs_str _ _ _) F.entry_str_partition (F.args_str_partition_2 _ _) (meets_str_partition z y t u hy hsz) ?_
  rw [ho]
  refine ⟨.ref s.heap.objs.size, _, I.laid (t' := s.toks + 1 + 1) (o := .tup [.str (Builtin.Str.strSub z 0 i), .str y, .str (Builtin.Str.strSub z (i + y.length) z.length)]) (fun b ob q => Heap.get?_push_of_some _ q) (Nat.le_refl _) ?_, rfl, q _ (I.hok.fresh (Nat.le_refl _))⟩
  exact ⟨by show 3 ≤ sizeLine; decide, _, .cons ⟨_, rfl⟩ (.cons ⟨_, rfl⟩ (.cons ⟨_, rfl⟩ .nil)), IsTup.new _ _⟩
abbrev betD : List (Str × KTD.Dat) := [("and", .flat (.str " & ")), ("or", .flat (.str " | "))]
noncomputable def rIxBet (T : Addr) : R2 := fun x y H Q => x = .ref T ∧ ((y = .str "and" ∧ Q (.str " & ") H) ∨ (y = .str "or" ∧ Q (.str " | ") H))
theorem ix_bet {T : Addr} (hT : tabAt X.K T betD) : IxR X (rIxBet T) := by
  intro value slice pins s σ H x y v u Q I rx ry h hs
  obtain ⟨e1, h⟩ := h
  subst e1
  cases rx
  have here : KTD.Here X.base s.heap T betD := ⟨KTD.text_of_look (get := fun a => X.K.lookup a) (fun a o e => I.mod.kin a o e) hT, I.bk⟩
  rcases h with ⟨e, q⟩ | ⟨e, q⟩
  · subst e
    obtain ⟨t, e⟩ := ry
    subst e
    refine KTD.item_textA here (by rfl) (by decide +kernel) ?_ hs
    have e : decide (("and" : Str) = "and") = true := by decide +kernel
    simp only [KTD.EachL, e, if_true]
    exact fun t => ⟨.str " & ", H, I.tok _, ⟨_, rfl⟩, q⟩
  · subst e
    obtain ⟨t, e⟩ := ry
    subst e
    refine KTD.item_textA here (by rfl) (by decide +kernel) ?_ hs
    have e : decide (("or" : Str) = "and") = false := by decide +kernel
    simp only [KTD.EachL, e, Bool.false_eq_true, if_false]
    exact fun _ t => ⟨.str " | ", H, I.tok _, ⟨_, rfl⟩, q⟩
abbrev kinD : List (Str × KTD.Dat) := [(" & ", .flat (.str "and")), (" | ", .flat (.str "or"))]
noncomputable def tKin (ty : TE) : TE := fun σ H Q => ty σ H fun y H1 => (y = .str " & " ∧ Q (.str "and") H1) ∨ (y = .str " | " ∧ Q (.str "or") H1)
theorem pe_kin {o e : Expr} {apos cpos : Pos} {ty : TE} {T : Addr} (hT : tabAt X.K T kinD) (ho : PE X o (tC (.ref T))) (he : PE X e ty) (m : M1 X o "get" apos e cpos) : PE X (.Call (.Attribute o "get" apos) [e] [] cpos) (tKin ty) := by
  intro pins s σ H Q I h
  refine wpAny_Call_method m.base m.few m.line PySem.F.plainAttrs_dict PySem.F.slot_dict_get PySem.F.type_dict_get (thn (ho pins s σ H (fun x H1 => x = .ref T ∧ H1 = H) I ⟨rfl, rfl⟩) fun u s1 z => ?_)
  obtain ⟨x, H1, I1, rx, ex, eh⟩ := z
  subst ex eh
  obtain rfl : u = Value.ref T := rx
  have here : ∀ {s' : Shared} {H' : Hp}, Inv X pins σ H' s' → KTD.Here X.base s'.heap T kinD := fun J => ⟨KTD.text_of_look (get := fun a => X.K.lookup a) (fun a o e => J.mod.kin a o e) hT, J.bk⟩
  refine ⟨(here I1).typeIs, (here I1).noDict, ?_⟩
  rw [m.trees]
  refine Calls.callWith_builtin rfl (Calls.evalArgs_plain (Calls.spliced_cons (thn (he pins s1 σ H1 _ I1 h) fun iv s2 z => Calls.spliced_nil ?_)))
  obtain ⟨y, H2, I2, ry, hp⟩ := z
  rcases hp with ⟨e, q⟩ | ⟨e, q⟩
  · subst e
    obtain ⟨t, e⟩ := ry
    subst e
    refine KTD.get1_textL (here I2) (by decide +kernel) ?_
    simp only [KTD.EachL, show decide ((" & " : Str) = " & ") = true by decide +kernel, if_true]
    exact fun t => ⟨.str "and", H2, I2.tok _, ⟨_, rfl⟩, q⟩
  · subst e
    obtain ⟨t, e⟩ := ry
    subst e
    refine KTD.get1_textL (here I2) (by decide +kernel) ?_
    simp only [KTD.EachL, show decide ((" | " : Str) = " & ") = false by decide +kernel, Bool.false_eq_true, if_false]
    exact fun _ t => ⟨.str "or", H2, I2.tok _, ⟨_, rfl⟩, q⟩
noncomputable def rNeT30 (K : PySem.W.Frag) : R2 := fun x y H Q => ∃ a b xs ys e, x = .ref a ∧ y = .ref b ∧ SqT K H a xs ∧ SqT K H b ys ∧ (∀ (j : Nat) x y, xs[j]? = some x → ys[j]? = some y → EqD K H 30 x y (e j)) ∧
  Q (.bl (!((List.range (min xs.length ys.length)).all e && xs.length == ys.length))) H
theorem op_neT30 (hu : X.A.units + 64 < cLine) : OpR X (compareOp .NotEq) (rNeT30 X.K) := by
  intro pins s σ H x y v u Q I rx ry h
  obtain ⟨a, b, xs, ys, e, e1, e2, ha, hb, hi, q⟩ := h
  subst e1 e2
  cases rx
  cases ry
  obtain ⟨its, r1, p1, _⟩ := I.tuple ha
  obtain ⟨its2, r2, p2, _⟩ := I.tuple hb
  have l1 := r1.length
  have l2 := r2.length
  refine SeqAt.RcNeAt.tuples (e := e) (show s.heap.IsTuple a its.toArray from p1) (show s.heap.IsTuple b its2.toArray from p2) (by omega) (EqD.items I (by omega) r1 r2 hi) _ _ _ _ ⟨.bl _, H, I, rfl, ?_⟩
  rw [List.size_toArray, List.size_toArray, ← l1, ← l2]
  exact q
theorem ix_seqK {K : PySem.W.Frag} (h : X.K = K) : IxR X (fun x y H Q => rIxT K x y H Q ∨ rIxL K x y H Q) := by subst h; exact IxR.or ix_tup ix_list
end
section
variable {K : PySem.W.Frag} {g : TG} {te : TE} {tt : TT} {σ0 : St} {QD : Hp → Prop} {H1 : Hp} {D : Addr}
theorem comp_rangeT {lo : Int} {n : Nat} (Pv : Nat → Hp → List V → Prop) (h0 : Pv 0 (upd H1 D (.lst [])) []) (hD : ∀ i H ys, Pv i H ys → H D = some (.lst ys))
    (hs : ∀ i H ys, i < n → Pv i H ys → g (.int (lo + i)) σ0 H fun σ2 H2 => wk σ0 σ2 ∧ tt σ2 H2 fun b H3 => if b = true then te σ2 H3 (NextC Pv n D i ys) else ∃ m', m' < n - i ∧ (m' = n - (i + 1) ∧ i + 1 ≤ n ∧ Pv (i + 1) H3 ys)) (hd : ∀ H ys, Pv n H ys → QD H) :
    ∃ W : Nat → Nat → Hp → List V → Prop, (∃ m, W 0 m (upd H1 D (.lst [])) []) ∧ ∀ i m H ys, W i m H ys → H D = some (.lst ys) ∧ (((Itr lo n).stop i H ∧ QD H) ∨ ((Itr lo n).go i H ∧ ∀ x H', (Itr lo n).yld i H x H' → g x σ0 H' fun σ2 H2 => wk σ0 σ2 ∧ tt σ2 H2 fun b H3 =>
      if b = true then te σ2 H3 fun v H4 => H4 D = some (.lst ys) ∧ ys.length < sizeLine ∧ ∃ m', m' < m ∧ W (i + 1) m' (upd H4 D (.lst (ys ++ [v]))) (ys ++ [v]) else ∃ m', m' < m ∧ W (i + 1) m' H3 ys)) := by
  refine ⟨fun i m H ys => m = n - i ∧ i ≤ n ∧ Pv i H ys, ⟨n, by simp, Nat.zero_le _, h0⟩, ?_⟩
  rintro i m H ys ⟨rfl, hi, p⟩
  refine ⟨hD i H ys p, ?_⟩
  by_cases hlt : i < n
  · refine .inr ⟨hlt, fun x H' y => ?_⟩
    obtain ⟨e, y⟩ := y
    subst e y
    exact hs i _ ys hlt p
  · have e : i = n := by omega
    subst e
    exact .inl ⟨Nat.le_refl _, hd H ys p⟩
theorem kit_lt {K : PySem.W.Frag} : PySem.W.kitOne K (.type "list") (.type "tuple") = some false := by with_unfolding_all rfl
theorem kit_tl {K : PySem.W.Frag} : PySem.W.kitOne K (.type "tuple") (.type "list") = some false := by with_unfolding_all rfl
theorem kit_st {K : PySem.W.Frag} : PySem.W.kitOne K (.type "str") (.type "tuple") = some false := by with_unfolding_all rfl
theorem kit_sl {K : PySem.W.Frag} : PySem.W.kitOne K (.type "str") (.type "list") = some false := by with_unfolding_all rfl
end
end L2
set_option Elab.async false
set_option linter.all false
set_option maxRecDepth 100000
set_option maxHeartbeats 4000000
namespace LS
open PySem PySem.Spec PyProof.Rows
noncomputable def met (g : Nat → Str) : Nat → List Str
  | 0 => []
  | i + 1 => if g i ∈ met g i then met g i else met g i ++ [g i]
theorem met_le (g : Nat → Str) : ∀ i, (met g i).length ≤ i
  | 0 => Nat.le_refl _
  | i + 1 => by
    have q := met_le g i
    show (if g i ∈ met g i then met g i else met g i ++ [g i]).length ≤ i + 1
    split
    · omega
    · simp; omega
theorem met_mem (g : Nat → Str) (x : Str) : ∀ i, x ∈ met g i ↔ ∃ j, j < i ∧ g j = x
  | 0 => by simp [met]
  | i + 1 => by
    have q := met_mem g x i
    have e : x ∈ met g (i + 1) ↔ x ∈ met g i ∨ x = g i := by
      show x ∈ (if g i ∈ met g i then met g i else met g i ++ [g i]) ↔ _
      by_cases h : g i ∈ met g i
      · rw [if_pos h]
        exact ⟨.inl, fun z => z.elim id fun z => z ▸ h⟩
      · rw [if_neg h]; simp
    rw [e, q]
    constructor
    · rintro (⟨j, a, b⟩ | a)
      · exact ⟨j, by omega, b⟩
      · exact ⟨i, by omega, a.symm⟩
    · rintro ⟨j, a, b⟩
      rcases Nat.lt_succ_iff_lt_or_eq.mp a with c | c
      · exact .inl ⟨j, c, b⟩
      · subst c; exact .inr b.symm
section
variable {prog : Program} {w : World} {A : Around} {R : Result → Shared → Prop} {I S : Addr} {fp wr : List Addr} {G : Array GenState → Array GenState → Prop} {n : Nat} {P : Nat → Value → Prop} {St : Nat → Shared → Prop}
abbrev IsSet (prog : Program) (w : World) (h : Heap) (S : Addr) (g : Nat → Str) (i : Nat) : Prop := h.SetOf (strKind prog w) S (fun x => decide (x ∈ met g i)) (met g i).length
theorem IsSet.at {h h' : Heap} {g : Nat → Str} {i : Nat} (q : IsSet prog w h S g i) (k : ∀ o, h.get? S = some o → h'.get? S = some o) : IsSet prog w h' S g i := by
  obtain ⟨o, es, ep, t, e, r⟩ := q
  exact ⟨o, es, ep, t, k _ e, r⟩
theorem set_loop (W : WalksS prog w A.in1 I fp wr G n P St) (nS : S ∉ fp) (g : Nat → Str) (hg : ∀ i v, P i v → ∃ t, v = .str (g i) t) (hb : n + 1 < scanBound) :
    ∀ (m i : Nat) (s : Shared), n - i = m → i ≤ n → St i s → IsSet prog w s.heap S g i → (∀ s', Moved (S :: wr) G s s' → IsSet prog w s'.heap S g n → R (.ok (.ret .none)) s') →
      codeAny (model prog w) A (.builtin "set.update.loop" ⟨[.ref S, .ref I], []⟩) R s := by
  have nW : S ∉ wr := fun z => nS (W.sub _ z)
  have more : ∀ b ∈ wr, b ∈ S :: wr := fun b z => List.mem_cons_of_mem _ z
  intro m
  induction m with
  | zero =>
    intro i s em hi st q fin
    obtain rfl : i = n := by omega
    refine codeAny_builtin F.entry_set_update_loop ?_
    rw [Around.under_plainId F.plain_set_update_loop _]
    show wpAny _ A.in1 (pyNext (.ref I) >>= _) _ _ s
    exact wpAny_bind (W.done s _ _ st fun s1 mv => wpAny_pure (fin s1 (mv.mono more) (q.at fun o e => mv.heap S _ nW e)))
  | succ m ih =>
    intro i s em hi st q fin
    have lt : i < n := by omega
    refine codeAny_builtin F.entry_set_update_loop ?_
    rw [Around.under_plainId F.plain_set_update_loop _]
    show wpAny _ A.in1 (pyNext (.ref I) >>= _) _ _ s
    refine wpAny_bind (W.item i s _ _ lt st fun v s1 hP st1 mv => ?_)
    obtain ⟨t, rfl⟩ := hg i v hP
    have q1 := q.at fun o e => mv.heap S _ nW e
    show wpAny _ A.in1 (holding [Value.str (g i) t] (setAdd S (.str (g i) t)) >>= _) _ _ s1
    refine wpAny_bind (wpAny_holding ?_)
    unfold setAdd
    refine wpAny_holding (wpAny_bind ((strKind prog w).pyHash (k := g i) (strKind_is _ _ _ _) ?_))
    have room : (met g i).length + 1 < scanBound := by have := met_le g i; omega
    refine wpAny_setAddHashed_of (knd := strKind prog w) (s := { s1 with toks := s1.toks + 1 }) (strKind_is _ _ _ _) rfl q1 room fun h2 sb q2 => ?_
    have q3 : IsSet prog w h2 S g (i + 1) := by
      refine SetOf_congr q2 (fun x => ?_) ?_
      · show (decide (x ∈ met g i) || decide (x = g i)) = decide (x ∈ (if g i ∈ met g i then met g i else met g i ++ [g i]))
        by_cases z : g i ∈ met g i
        · rw [if_pos z]
          by_cases y : x = g i
          · subst y; simp [z]
          · simp [y]
        · rw [if_neg z]; simp
      · show (if decide (g i ∈ met g i) = true then _ else _) = (if g i ∈ met g i then met g i else met g i ++ [g i]).length
        by_cases z : g i ∈ met g i
        · simp [z]
        · simp [z]
    refine wpAny_pure ⟨plainId_quiet F.plain_set_update_loop _, ih (i + 1) _ (by omega) lt (W.frame _ s1 _ _ st1 (Nat.le_succ _) fun b z o e => ?_) q3 fun s3 mv3 q4 => ?_⟩
    · rw [sb.2 b (fun y : b = S => nS (by rw [← y]; exact z))]; exact e
    · refine fin s3 (Moved.trans W.gtrans ((mv.mono more).then_heap (Nat.le_succ _) fun b o z e => ?_) mv3) q4
      rw [sb.2 b (fun y : b = S => z (by rw [y]; exact List.mem_cons_self))]; exact e
end
section
variable {prog : Program} {w : World} {A : Around} {E : Value → Shared → Prop} {s : Shared}
abbrev bare (led : Bool) : Obj := { cls := .type "set", dict := none, data := .set #[] 0 (.fresh 0 0 led) }
theorem call_set_txt {l : Addr} {its : Array Value} {g : Nat → Str} {Q : Value → Shared → Prop} (hh : A.handled = none) (hl : s.heap.IsList l its) (hi : ∀ (i : Nat) (v : Value), its[i]? = some v → ∃ t, v = .str (g i) t) (hb : its.size + 1 < scanBound)
    (h : ∀ (h1 : Heap) (tk : Nat), IsSet prog w h1 s.heap.objs.size g its.size → (∀ b o, s.heap.get? b = some o → h1.get? b = some o) → Q (.ref s.heap.objs.size) { s with heap := h1, toks := tk }) :
    wpAny (model prog w) A (call (.type "set") [.ref l]) Q E s := by
  obtain ⟨cl, tl, mro⟩ := F.called_set.mro
  have y1 := F.called_set.made
  have y2 := F.called_set.sub
  refine wpAny_call (codeAny_of_tree ?_)
  show wpAny _ _ (callAny (.type "set") ⟨[.ref l], []⟩) _ _ _
  refine wpAny_pure ⟨Code.quiet_builtin _ (by decide +kernel), codeAny_builtin F.entry_type_call ?_⟩
  rw [Around.under_plain (weight_type_call_type "set" [.ref l] []) rfl]
  have y3 := F.called_set.notType
  have y4 := F.called_set.canCreate
  have y5 := F.typeCall_set_1 (.ref l)
  repeat (any_goals (first | assumption | wp_step))
  refine codeAny_mono (code_set_new_1 (.ref l) (E := E) (Q₁ := fun v s1 => ∃ led : Bool, v = .ref s.heap.objs.size ∧ s1 = { s with heap := s.heap.push (bare led) }) fun led => ⟨led, rfl, rfl⟩) fun r s1 hr => ?_
  cases r with
  | error e => exact hr
  | ok fl =>
    cases fl with
    | ret obj =>
      obtain ⟨led, rfl, rfl⟩ := hr
      have hS : (s.heap.push (bare led)).get? s.heap.objs.size = some (bare led) := Heap.get?_push_size _ rfl
      have hT : Shared.TypeIs { s with heap := s.heap.push (bare led) } (.ref s.heap.objs.size) "set" := ⟨_, hS, rfl⟩
      have y6 := F.called_set.init.lookup
      have y7 := F.called_set.init.bind (.ref s.heap.objs.size)
      repeat (any_goals (first | assumption | wp_step))
      refine codeAny_mono (codeAny_call_builtin (R := wants (fun v s2 => v = .none ∧ ∃ h1 tk, s2 = { s with heap := h1, toks := tk } ∧ IsSet prog w h1 s.heap.objs.size g its.size ∧ ∀ b o, s.heap.get? b = some o → h1.get? b = some o) E) F.called_set.init.plain F.entry_set_init (check_set_init_1 hT ?_)) fun r2 s2 hr2 => ?_
      · obtain ⟨ol, hol, hcl, nl, hdl⟩ := hl
        obtain ⟨ocls, odict, odata, oslots⟩ := ol
        simp only at hcl hdl
        subst hcl; subst hdl
        have hol1 : (s.heap.push (bare led)).get? l = some { cls := .type "list", dict := odict, data := .seq its nl, slots := oslots } := Heap.get?_push_of_some _ hol
        have y8 := F.sub_list_set
        have y9 := F.sub_list_frozenset
        have y0 : (Value.type "list" == Value.type "dict") = false := by decide
        have hl1 : (s.heap.push (bare led)).IsList l its := ⟨_, hol1, rfl, nl, rfl⟩
        unfold Builtin.«set.__init__» noKeywords Builtin.Frozenset.updateFrom
        generalize hPI : pyIter = PI
        wp_walk
        subst hPI
        refine wpAny_pyIter_list hl1 ?_
        refine wpAny_bind (wpAny_runValue ?_)
        have lS : l < s.heap.objs.size := Heap.lt_size hol
        have nI : l ≠ (s.heap.push (bare led)).objs.size := by
          rw [Heap.size_push]; exact Nat.ne_of_lt (Nat.lt_succ_of_lt lS)
        have nF : s.heap.objs.size ∉ [(s.heap.push (bare led)).objs.size, l] := by
          rw [Heap.size_push]; simp only [List.mem_cons, List.mem_singleton, List.not_mem_nil, or_false, not_or]
          exact ⟨Nat.ne_of_lt (Nat.lt_succ_self _), Nat.ne_of_gt lS⟩
        refine set_loop ((Walks.list (show A.in1.in1.in1.handled = none by simp [hh]) _ l nI its).toS) nF g hi hb (its.size - 0) 0 _ (by omega) (Nat.zero_le _) ⟨⟨_, Heap.get?_push_size _ rfl, rfl, rfl⟩, (hl1.push _)⟩ ?_ fun s3 mv q => ?_
        · have e : ((s.heap.push (bare led)).push { cls := .type "list_iterator", data := .fields #[.ref l, .int 0 0] }).get? s.heap.objs.size = some (bare led) := Heap.get?_push_of_some _ hS
          exact SetOf_congr ((setObjOf_fresh (knd := strKind prog w) led).setOf e (by unfold scanBound; omega)) (fun _ => by simp [met]) rfl
        · obtain ⟨h3, g3, d3, tk3, os3⟩ := s3
          obtain rfl : g3 = s.gens := mv.gens
          obtain rfl : d3 = s.drawn := mv.drawn
          obtain rfl : os3 = s.os := mv.os
          show wpAny _ _ _ _ _ _
          refine wpAny_pure ?_
          show wpAny _ _ (ret Value.none) _ _ _
          refine wpAny_pure ⟨rfl, h3, tk3, rfl, q, fun b o e => ?_⟩
          have lb := Heap.lt_size e
          have z1 : b ≠ s.heap.objs.size := Nat.ne_of_lt lb
          have z2 : b ≠ (s.heap.push (bare led)).objs.size := by
            rw [Heap.size_push]; exact Nat.ne_of_lt (Nat.lt_succ_of_lt lb)
          exact mv.heap b o (by simp only [List.mem_cons, List.mem_singleton, List.not_mem_nil, or_false, not_or]; exact ⟨z1, z2⟩) (Heap.get?_push_of_some _ (Heap.get?_push_of_some _ e))
      · cases r2 with
        | error e => exact hr2
        | ok fl2 =>
          cases fl2 with
          | ret r =>
            obtain ⟨rfl, h1, tk, rfl, q, k⟩ := hr2
            repeat (any_goals (first | assumption | wp_step))
            exact h _ _ q k
          | _ => exact hr2.elim
    | _ => exact hr.elim
end
end LS
set_option Elab.async false
set_option linter.all false
set_option maxRecDepth 100000
set_option maxHeartbeats 4000000
namespace L2
open PySem PySem.Spec PyProof.Rows
noncomputable def uniq (ts : List Str) : Nat := (LS.met (fun i => ts.getD i Str.empty) ts.length).length
section
variable {X : Cx} {a : Expr} {ta : TA} {p p1 pos pos1 : Pos}
noncomputable def tLenSet (K : PySem.W.Frag) (ta : TA) : TE := fun σ H Q => ta σ H fun vs H1 => ∃ l ts, vs = [.ref l] ∧ SqL K H1 l (ts.map V.str) ∧ ts.length < 1000 ∧ Q (.int (uniq ts)) H1
theorem pe_lenset (hc : X.calm = true) (hg : Gl X "len") (hm : X.mg "len" = none) (hg1 : Gl X "set") (hm1 : X.mg "set" = none) (ha : PA X [a] ta) (hs : starEach [a] X.env = [(false, eval a X.env)] := by rfl)
    (he : starEach [.Call (.Name "set" p1) [a] [] pos1] X.env = [(false, eval (.Call (.Name "set" p1) [a] [] pos1) X.env)] := by rfl) :
    PE X (.Call (.Name "len" p) [.Call (.Name "set" p1) [a] [] pos1] [] pos) (tLenSet X.K ta) := by
  intro pins s σ H Q I h
  refine wpAny_Call_Name_kw (ld_blt I hg hm PySem.boot_len ?_)
  refine PyProof.Rows.callWith_builtin1 ?_ he rfl
  rw [he]
  show wpAny _ _ (spliced ((false, eval (.Call (.Name "set" p1) [a] [] pos1) X.env) :: backTo pos [])) _ _ s
  refine Calls.spliced_cons ?_
  refine Call_ (ld_blt I hg1 hm1 PyProof.Rows.boot_set (PyProof.Rows.callWith_type1 (thn (ha pos1 pins s σ H _ I h) fun us s1 z => ?_) hs rfl))
  obtain ⟨vs, H1, I1, r1, l, ts, e, hl, hsm, q⟩ := z
  subst e
  obtain ⟨u1, e, ru1⟩ := vals1 r1
  subst e
  cases ru1
  obtain ⟨its, rv, pl, _⟩ := I1.list hl
  have hlen : its.length = ts.length := by rw [← rv.length, List.length_map]
  refine LS.call_set_txt (its := its.toArray) (g := fun i => ts.getD i Str.empty) (I1.ok.hd hc) pl.isList (fun i v hv => ?_) (by rw [List.size_toArray, hlen]; unfold scanBound; omega) fun h3 tk q3 kept => ?_
  · have hv' : its[i]? = some v := by simpa using hv
    have hi : i < ts.length := by
      have := (List.getElem?_eq_some_iff.mp hv').1
      omega
    have e1 : (ts.map V.str)[i]? = some (.str (ts.getD i Str.empty)) := by
      rw [List.getElem?_map, List.getElem?_eq_getElem hi, List.getD_eq_getElem?_getD, List.getElem?_eq_getElem hi]; rfl
    obtain ⟨u, hu, ru⟩ := rv.get e1
    rw [hv'] at hu
    cases hu
    obtain ⟨t, e2⟩ := ru
    exact ⟨t, e2⟩
  · refine Calls.spliced_nil ?_
    have hz : its.toArray.size = ts.length := by rw [List.size_toArray]; exact hlen
    rw [hz] at q3
    obtain ⟨o, es, ep, t, ho, hex, hd, _, _, _, hf, hn⟩ := q3
    have hle := LS.met_le (fun i => ts.getD i Str.empty) ts.length
    refine PySem.call_len_set ho hex hd hf (by rw [hn]; omega) ?_
    exact ⟨.int (uniq ts), H1, I1.kept (t' := tk + 1 + 1) kept, ⟨tk + 1, by rw [hn]; rfl⟩, q⟩
end
end L2
namespace LS
open PySem
theorem met_full (g : Nat → Str) : ∀ n, (met g n).length = n ↔ ∀ i j, i < n → j < n → g i = g j → i = j
  | 0 => ⟨fun _ i j h => absurd h (Nat.not_lt_zero _), fun _ => rfl⟩
  | n + 1 => by
    have ih := met_full g n
    have le := met_le g n
    have e : (met g (n + 1)).length = if g n ∈ met g n then (met g n).length else (met g n).length + 1 := by
      show (if g n ∈ met g n then met g n else met g n ++ [g n]).length = _
      split <;> simp
    constructor
    · intro h
      rw [e] at h
      have ni : g n ∉ met g n := fun z => by rw [if_pos z] at h; omega
      rw [if_neg ni] at h
      have old := ih.mp (by omega)
      have no : ∀ j, j < n → g j ≠ g n := fun j hj z => ni ((met_mem g _ n).mpr ⟨j, hj, z⟩)
      intro i j hi hj hg
      rcases Nat.lt_succ_iff_lt_or_eq.mp hi with a | a <;> rcases Nat.lt_succ_iff_lt_or_eq.mp hj with b | b
      · exact old i j a b hg
      · subst b; exact absurd hg (no i a)
      · subst a; exact absurd hg.symm (no j b)
      · omega
    · intro h
      have old := ih.mpr fun i j a b => h i j (by omega) (by omega)
      have ni : g n ∉ met g n := fun z => by
        obtain ⟨j, hj, q⟩ := (met_mem g _ n).mp z
        have := h j n (by omega) (by omega) q
        omega
      rw [e, if_neg ni]
      omega
end LS
namespace L2
open PySem
theorem uniq_all {ts : List Str} : uniq ts = ts.length ↔ ts.Nodup := by
  unfold uniq List.Nodup
  rw [LS.met_full, List.pairwise_iff_getElem]
  have at_ : ∀ (i : Nat) (hi : i < ts.length), ts.getD i Str.empty = ts[i] := fun i hi => by rw [List.getD_eq_getElem?_getD, List.getElem?_eq_getElem hi]; rfl
  constructor
  · intro h i j hi hj hij hq
    have := h i j hi hj (by rw [at_ i hi, at_ j hj, hq])
    omega
  · intro h i j hi hj hg
    rw [at_ i hi, at_ j hj] at hg
    by_cases a : i < j
    · exact absurd hg (h i j hi hj a)
    · by_cases b : j < i
      · exact absurd hg.symm (h j i hj hi b)
      · omega
end L2
set_option Elab.async false
set_option linter.all false
set_option maxRecDepth 100000
set_option maxHeartbeats 4000000
namespace L2
open PySem PySem.StrLaws PySem.Builtin.Str
noncomputable def JJ (Y : List Nat) : List Nat → List (List Nat) → List Nat
  | p, [] => p
  | p, q :: r => p ++ (Y ++ JJ Y q r)
theorem at_iff (x y : Str) (k : Nat) : At x y x.length k ↔ k + y.length ≤ x.length ∧ (x.cps.toList.drop k).take y.length = y.cps.toList := by
  unfold At
  rw [subAt_eq, beq_iff_eq]
theorem not_at {x y : Str} {c : Nat} {Y' p R : List Nat} {a k : Nat} (hy : y.cps.toList = c :: Y') (e : x.cps.toList.drop a = p ++ R) (hc : c ∉ p) (h1 : a ≤ k) (h2 : k < a + p.length) : ¬ At x y x.length k := fun h => by
  rw [at_iff, hy] at h
  have l : y.length = Y'.length + 1 := by
    show y.cps.size = _
    rw [← Array.length_toList, hy, List.length_cons]
  have h3 : ((x.cps.toList.drop k).take y.length)[0]? = some c := by rw [h.2]; rfl
  rw [List.getElem?_take_of_lt (by omega), List.getElem?_drop] at h3
  have h4 : (x.cps.toList.drop a)[k - a]? = some c := by rw [List.getElem?_drop, ← h3]; congr 1; omega
  rw [e, List.getElem?_append_left (by omega)] at h4
  exact hc (List.mem_of_getElem? h4)
theorem parts_join {x y : Str} {c : Nat} {Y' : List Nat} (hy : y.cps.toList = c :: Y') : ∀ (ps : List (List Nat)) (p : List Nat) (a : Nat) (cuts : List Nat) (f : Nat), (∀ q ∈ p :: ps, c ∉ q) → x.cps.toList.drop a = JJ y.cps.toList p ps → a ≤ x.length → ChainG x y x.length a cuts f → (∀ k, f ≤ k → ¬ At x y x.length k) → (partsFrom x y.length a cuts).map (·.cps.toList) = p :: ps := by
  have l : y.length = Y'.length + 1 := by
    show y.cps.size = _
    rw [← Array.length_toList, hy, List.length_cons]
  have lx : x.cps.toList.length = x.length := Array.length_toList ..
  intro ps
  induction ps with
  | nil =>
    intro p a cuts f hf e ha ch hn
    have e' : x.cps.toList.drop a = p ++ [] := by rw [List.append_nil]; exact e
    have le := congrArg List.length e
    rw [List.length_drop, lx] at le
    have le' : x.length - a = p.length := le
    cases cuts with
    | nil =>
      show [(strSub x a x.length).cps.toList] = [p]
      rw [strSub_toList, e]
      congr 1
      exact List.take_of_length_le (by show p.length ≤ _; omega)
    | cons d r =>
      obtain ⟨h1, h2, _⟩ := ch
      exact absurd h2 (not_at hy e' (hf p (by simp)) h1 (by have := h2.1; omega))
  | cons q r ih =>
    intro p a cuts f hf e ha ch hn
    have e' : x.cps.toList.drop a = p ++ (y.cps.toList ++ JJ y.cps.toList q r) := e
    have le := congrArg List.length e'
    rw [List.length_drop, lx, List.length_append, List.length_append] at le
    have ly : y.cps.toList.length = y.length := Array.length_toList ..
    rw [ly] at le
    have e2 : x.cps.toList.drop (a + p.length) = y.cps.toList ++ JJ y.cps.toList q r := by rw [← List.drop_drop, e', List.drop_left]
    have at1 : At x y x.length (a + p.length) := by
      rw [at_iff]
      refine ⟨by omega, ?_⟩
      rw [e2]
      exact List.take_left' ly
    have no : ∀ k, a ≤ k → k < a + p.length → ¬ At x y x.length k := fun k h1 h2 => not_at hy e' (hf p (by simp)) h1 h2
    cases cuts with
    | nil =>
      have ef : f = a := ch
      subst ef
      exact absurd at1 (hn _ (by omega))
    | cons d s =>
      obtain ⟨h1, h2, h3, h4⟩ := ch
      have ed : d = a + p.length := by
        by_cases c1 : d < a + p.length
        · exact absurd h2 (no d h1 c1)
        · by_cases c2 : a + p.length < d
          · exact absurd at1 (h3 _ (by omega) c2)
          · omega
      subst ed
      show (strSub x a (a + p.length)).cps.toList :: (partsFrom x y.length (a + p.length + y.length) s).map (·.cps.toList) = p :: q :: r
      rw [ih q (a + p.length + y.length) s f (fun z hz => hf z (List.mem_cons_of_mem _ hz)) (by rw [← List.drop_drop, e2]; exact List.drop_left' ly) (by omega) h4 hn, strSub_toList, e']
      congr 1
      rw [show a + p.length - a = p.length by omega]
      exact List.take_left' rfl
theorem kind_ge (x : Str) : 1 ≤ Builtin.Str.strKind x := by
  unfold Builtin.Str.strKind
  split
  · omega
  · split <;> omega
theorem split_JJ {x y : Str} {c : Nat} {Y' p : List Nat} {ps : List (List Nat)} (hy : y.cps.toList = c :: Y') (hk : Builtin.Str.strKind y = 1) (e : x.cps.toList = JJ y.cps.toList p ps) (hf : ∀ q ∈ p :: ps, c ∉ q) : Txt.split x y = (p :: ps).map fun q => ⟨q.toArray⟩ := by
  have l : y.length = Y'.length + 1 := by
    show y.cps.size = _
    rw [← Array.length_toList, hy, List.length_cons]
  obtain ⟨f, hG, hn⟩ := occ_tight x y (by omega)
  have key := parts_join hy ps p 0 _ f hf (by rw [List.drop_zero]; exact e) (Nat.zero_le _) hG hn
  have fin : partsFrom x y.length 0 (occurrences x y 0 x.length (x.length + 1)) = (p :: ps).map fun q => ⟨q.toArray⟩ := by
    rw [← key, List.map_map]
    have : ((fun q : List Nat => (⟨q.toArray⟩ : Str)) ∘ fun z : Str => z.cps.toList) = id := by funext z; simp
    rw [this, List.map_id]
  have none_ : occurrences x y 0 x.length (x.length + 1) = [] → [x] = (p :: ps).map fun q => (⟨q.toArray⟩ : Str) := fun h => by
    rw [← fin, h]
    show [x] = [strSub x 0 x.length]
    rw [sub_whole]
  unfold Txt.split
  split
  · rename_i hc
    rw [Bool.or_eq_true, decide_eq_true_eq, decide_eq_true_eq] at hc
    rcases hc with h | h
    · refine none_ ?_
      cases ho : occurrences x y 0 x.length (x.length + 1) with
      | nil => rfl
      | cons d r =>
        rw [ho] at hG
        have := hG.2.1.1
        omega
    · have := kind_ge x
      omega
  · split
    · rename_i he
      exact none_ (List.isEmpty_iff.mp he)
    · rw [partsBetween_eq]
      exact fin
theorem occ_first_at {x : Str} {c : Nat} {p R : List Nat} (e : x.cps.toList = p ++ c :: R) (hc : c ∉ p) : ∃ r, occurrences x ⟨#[c]⟩ 0 x.length 1 = p.length :: r := by
  have lx : x.cps.toList.length = x.length := Array.length_toList ..
  have le := congrArg List.length e
  rw [lx, List.length_append, List.length_cons] at le
  have at1 : At x ⟨#[c]⟩ x.length p.length := (subAt_one x c p.length).mpr (by rw [e]; simp)
  rw [occ_eq]
  rcases occ_first x ⟨#[c]⟩ x.length 1 (Nat.le_refl 1) (List.range' 0 (x.length + 1 - 0)) 0 (fun _ _ => Nat.zero_le _) with ⟨_, hn⟩ | ⟨pre, a, post, hl, h0, ha, hn⟩
  · exact absurd at1 (hn _ (by simp [List.mem_range']; omega))
  · have hp := range'_split hl
    have ea : a = p.length := by
      by_cases c1 : a < p.length
      · exact absurd ha (not_at (c := c) (Y' := []) (p := p) (R := c :: R) (a := 0) rfl (by rw [List.drop_zero]; exact e) hc (Nat.zero_le _) (by omega))
      · by_cases c2 : p.length < a
        · exact absurd at1 (hn _ (hp _ c2))
        · omega
    subst ea
    cases h : (forIn (List.range' 0 (x.length + 1 - 0)) ((#[] : Array Nat), 0) (occBody x ⟨#[c]⟩ x.length 1)).run.fst.toList with
    | nil => rw [← Array.getElem?_toList, h] at h0; cases h0
    | cons d r =>
      rw [← Array.getElem?_toList, h] at h0
      cases h0
      exact ⟨r, rfl⟩
theorem join_JJ (y : Str) : ∀ (ps : List Str) (p : Str), (Txt.join y (p :: ps)).cps.toList = JJ y.cps.toList p.cps.toList (ps.map (·.cps.toList)) := by
  intro ps
  induction ps with
  | nil => intro p; rfl
  | cons q r ih =>
    intro p
    have h := ih q
    unfold Txt.join at h ⊢
    rw [PySem.StrLaws.glued_eq_join] at h ⊢
    show (p ++ y ++ Str.join y (q :: r)).cps.toList = _
    show (p.cps ++ y.cps ++ (Str.join y (q :: r)).cps).toList = p.cps.toList ++ (y.cps.toList ++ JJ y.cps.toList q.cps.toList (r.map (·.cps.toList)))
    rw [← h]
    simp
end L2
set_option Elab.async false
set_option linter.all false
set_option maxRecDepth 100000
set_option maxHeartbeats 4000000
namespace L2
open PySem PySem.Spec PyProof.Rows
section
variable {X : Cx} {scope : Scope} {tgs : List Str} {cap : List (Str × Nat)}
theorem ps_lc {j : Nat} {x : Str} {pos' spos : Pos} {elt tg iter : Expr} {ifs : List Expr} {pos : Pos} {wi : TI} {g : TG} {tt : TT} {te : TE} (hN : X.N.Nodup) (hj : X.N[j]? = some x) (hx : Loc X.env.scope x) (hc : X.calm = true) (B : BlockOk X scope tgs cap) (hi : PI X tg iter wi)
    (hg : ∀ C s H fp, PG (X.block (tgs ++ cap.map (·.1)) scope C s H fp) tg g) (ht : ∀ C s H fp, PIfs (X.block (tgs ++ cap.map (·.1)) scope C s H fp) ifs tt) (he : ∀ C s H fp, PE (X.block (tgs ++ cap.map (·.1)) scope C s H fp) elt te)
    (hs : ∀ x, foldedSetIterable iter X.env x = pure x := by intro _; rfl) (hsw : swapsWith (.ListComp elt [⟨tg, iter, ifs, 0⟩] scope pos) (some (.Name x pos')) spos.line X.env = pure true := by rfl)
    (hf : X.fn x = true ∨ X.env.scope.names.lookup x = some .local := by first | exact .inl rfl | exact .inr rfl | assumption) : PS X (.Assign [.Name x pos'] (.ListComp elt [⟨tg, iter, ifs, 0⟩] scope pos) spos) (tAsg (tComp wi g tt te (blockSt tgs cap)) (gName j)) := by
  intro pins s σ H D I h
  rw [exec_Assign_Name_used _ _ _ _ hsw]
  refine wpAny_bind (wpAny_standAt (wpAny_bind ?_))
  show wpAny _ _ (comprehension _ _ _ _ _ _ _ _ >>= _) _ _ _
  refine wpAny_bind (thn (Q := fun _ s' => SP X pins D .next s') ?_ fun _ s' q => wpAny_pure (wpAny_pure q))
  refine wpAny_comprehension_free (use := some (assign (.Name x pos') X.env)) rfl hs (closure_eq (B.cellAt I.ok)) B.kind B.locs (thn (hi pins s σ H _ I h) fun v s1 h1 => thn h1 fun itv s2 h2 => ?_)
  obtain ⟨it, fp, tn, J, H2, e, I2, T, st2, f2, q⟩ := h2
  subst e
  have lt2 : ∀ b ∈ fp, b < s2.heap.objs.size := fun b hb => let ⟨o, e, _⟩ := T.obj _ _ st2 b hb; Heap.lt_size e
  have hD : H2 s2.heap.objs.size = none := I2.hok.fresh (Nat.le_refl _)
  obtain ⟨W, ⟨m0, w0⟩, turn⟩ := q s2.heap.objs.size hD
  refine wpAny_newObj_type ?_
  have I3 : Inv X pins σ (upd H2 s2.heap.objs.size (.lst [])) { s2 with heap := s2.heap.push { cls := .type "list", dict := none, data := .seq ([] : List Value).toArray } } := I2.lnew (t' := s2.toks) (ys := []) (its := []) .nil (Nat.zero_le _)
  have st3 : tn 0 (s2.heap.push { cls := .type "list", dict := none, data := .seq ([] : List Value).toArray }) := T.keep _ _ _ st2 fun b _ o e => Heap.get?_push_of_some _ e
  have nD : ∀ b ∈ fp, b ≠ s2.heap.objs.size := fun b hb => Nat.ne_of_lt (lt2 b hb)
  have f3 : ∀ b ∈ fp, FpOk X pins (upd H2 s2.heap.objs.size (.lst [])) b := fun b hb => ⟨by rw [upd_ne (nD b hb)]; exact (f2 b hb).1, (f2 b hb).2⟩
  generalize hs3 : ({ s2 with heap := s2.heap.push { cls := .type "list", dict := none, data := .seq ([] : List Value).toArray } } : Shared) = s3 at I3 st3 ⊢
  have st3' : tn 0 s3.heap := by rw [← hs3]; exact st3
  have lt3 : ∀ b ∈ fp, b < s3.heap.objs.size := fun b hb => let ⟨o, e, _⟩ := T.obj _ _ st3' b hb; Heap.lt_size e
  generalize hH3 : upd H2 s2.heap.objs.size (.lst []) = H3 at I3 f3 w0
  generalize s2.heap.objs.size = DD at *
  refine wpAny_newFunctionEnv B.noc (by intro y hy; simp at hy) (fun h1 hns hsb => ?_) B.kind
  have old : ∀ b o, s3.heap.get? b = some o → h1.get? b = some o := fun b o e => hsb.extBut b o (Nat.ne_of_lt (Heap.lt_size e)) (Heap.get?_push_of_some _ e)
  have I4 := Inv.enter (tk := s3.toks + ([] : List (Str × Value)).length) (h1 := h1) B I3 f3 lt3 hns old
  have st4 : tn 0 h1 := T.keep _ _ _ st3' fun b _ o e => old b o e
  have fpB : ∀ {H' : Hp}, (∀ b ∈ fp, H' b = none) → ∀ b ∈ fp, FpOk (X.block (tgs ++ cap.map (·.1)) scope s3.heap.objs.size s3 H3 fp) [] H' b := fun {H'} hn b hb =>
    ⟨hn b hb, Nat.ne_of_lt (lt3 b hb), I4.ok.exfs b hb, .inl hb, fun x c e => (I4.ok.exf b hb).2 x c e, fun p hp => absurd (show p ∈ ([] : List (Addr × Obj)) from hp) (by simp)⟩
  have loop : codeAny (model X.prog X.w) X.A (.compLoop (.ListComp elt [⟨tg, iter, ifs, 0⟩] scope pos) 0 (.ref it) (.ref DD) (compEnvC scope (clsOf X.env scope.names []) s3.heap.objs.size X.env))
      (compPost (model X.prog X.w) X.A X.xe (some (assign (.Name x pos') X.env)) (fun _ s' => SP X pins D .next s') (.ref DD) s3.heap.objs.size) { s3 with heap := h1, toks := s3.toks + ([] : List (Str × Value)).length } := by
    refine compLoop_any (fun n s' => ∃ i H' ys, Inv (X.block (tgs ++ cap.map (·.1)) scope s3.heap.objs.size s3 H3 fp) [] (blockSt tgs cap σ) H' s' ∧ tn i s'.heap ∧ (∀ b ∈ fp, H' b = none) ∧ W i n H' ys) ?_ m0 ⟨0, H3, [], I4, st4, fun b hb => (f3 b hb).1, w0⟩
    rintro n s5 ⟨i, H5, ys, I5, st5, fr5, w5⟩
    obtain ⟨hl, ht5⟩ := turn i n H5 ys w5
    rcases ht5 with ⟨stop, qd⟩ | ⟨go, step⟩
    · refine thn (T.done (X.block (tgs ++ cap.map (·.1)) scope s3.heap.objs.size s3 H3 fp) rfl rfl rfl hc i [] s5 _ H5 _ I5 (fpB fr5) st5 stop) fun r s6 ⟨hr, I6⟩ => ?_
      subst hr
      obtain ⟨m6, n6, _⟩ := I6.loc
      have IO : Inv X pins σ H5 s6 := Inv.leave (h2 := s6.heap) I3 f3 I6 ⟨rfl, fun _ _ => rfl⟩
      have fC : FpOk X pins H5 s3.heap.objs.size := ⟨I6.free, (I3.fpOk (Nat.le_refl _) (I3.hok.fresh (Nat.le_refl _))).2⟩
      obtain ⟨f0, f1, f2', f3', f4, f5⟩ := fC
      refine wpAny_assign_Name (store_ok2 IO hN hj hx (show RelV (.ref DD) (.ref DD) from rfl) (fun s7 I7 ⟨a, sb, ha⟩ => ?_) hf)
      have na : s3.heap.objs.size ≠ a := by
        rcases ha with z | z
        · rw [z]; exact f1
        · exact fun y => f4 x a z y.symm
      obtain ⟨o6, es6, ep6, ho6, r6⟩ := n6
      refine ⟨m6, ⟨o6, es6, ep6, (sb.2 _ na).trans ho6, r6⟩, fun h' hs' => ⟨_, H5, I7.turned (t' := s7.toks) (fun b o hb q => (hs'.2 b hb).trans q) f0 f1 f3' f4 f5, qd⟩⟩
    · refine thn (T.item (X.block (tgs ++ cap.map (·.1)) scope s3.heap.objs.size s3 H3 fp) rfl rfl rfl hc i [] s5 _ H5 _ I5 (fpB fr5) st5 go) fun r s6 ⟨u, hr, h6⟩ => ?_
      subst hr
      refine thn h6 fun _ s7 ⟨x, H7, I7, r7, y7, st7, fr7⟩ => ?_
      have I7' := I7.pinned (fpB fr7) (T.obj _ _ st7)
      have again : ∀ {σ8 : St} {H8 : Hp} {s8 : Shared} {ys8 : List V}, Inv (X.block (tgs ++ cap.map (·.1)) scope s3.heap.objs.size s3 H3 fp) ([] ++ pinsAt fp s7.heap) σ8 H8 s8 → wk (blockSt tgs cap σ) σ8 → (∃ m', m' < n ∧ W (i + 1) m' H8 ys8) →
          ∃ m, m < n ∧ ∃ i H' ys, Inv (X.block (tgs ++ cap.map (·.1)) scope s3.heap.objs.size s3 H3 fp) [] (blockSt tgs cap σ) H' s8 ∧ tn i s8.heap ∧ (∀ b ∈ fp, H' b = none) ∧ W i m H' ys := fun {σ8 H8 s8 ys8} I8 k8 ⟨m', hm, w8⟩ => by
        refine ⟨m', hm, i + 1, H8, ys8, I8.unpinned.weak (wk_len k8) (wk_get k8), T.keep _ _ _ st7 fun b hb o e => (I8.pin (b, o) (List.mem_append_right _ (List.mem_append_right _ (mem_pinsAt hb e)))).1, fun b hb => ?_, w8⟩
        obtain ⟨o, e, d⟩ := T.obj _ _ st7 b hb
        exact (I8.pin (b, o) (List.mem_append_right _ (List.mem_append_right _ (mem_pinsAt hb e)))).2.1
      refine thn (hg _ _ _ _ _ s7 _ H7 x u _ I7' r7 (step x H7 y7)) fun _ s8 ⟨σ8, H8, I8, k8, q8⟩ => ?_
      refine thn (ht _ _ _ _ _ s8 σ8 H8 _ I8 q8) fun ok s9 ⟨H9, I9, q9⟩ => ?_
      cases ok with
      | false =>
        rw [if_neg Bool.false_ne_true] at q9 ⊢
        exact again I9 k8 q9
      | true =>
        rw [if_pos rfl] at q9 ⊢
        refine thn (he _ _ _ _ _ s9 σ8 H9 _ I9 q9) fun y sA ⟨yv, HA, IA, rA, hA, zA, qA⟩ => ?_
        exact thn (mt_append _ sA σ8 HA (.ref DD) [yv] (.ref DD) [y] (fun v H' => v = .non ∧ ∃ m', m' < n ∧ W (i + 1) m' H' (ys ++ [yv])) IA rfl (.cons rA .nil) ⟨DD, ys, yv, rfl, rfl, hA, zA, rfl, qA⟩) fun _ sB ⟨_, HB, IB, _, _, qB⟩ => again IB k8 qB
  exact codeAny_compStart_list loop (T.self _ 0 _ _ _ st4 loop)
end
end L2
set_option Elab.async false
set_option linter.all false
set_option maxRecDepth 100000
set_option maxHeartbeats 4000000
namespace K2
open PySem L2
theorem ix_tupK {X : Cx} {K : PySem.W.Frag} (h : X.K = K) : IxR X (rIxT K) := by subst h; exact ix_tup
noncomputable def top (i : Nat) : Stmt := PySem.Challenge.pw_anydelay_k80_nets_written_and_read.main.body.getD i (.Pass ⟨0, 0, 0, 0⟩)
structure Txt (K : PySem.W.Frag) (mg : Str → Option Value) (TT : Addr) : Prop where
  n_len : mg "len" = none
  n_range : mg "range" = none
  n_max : mg "max" = none
  n_min : mg "min" = none
  n_int : mg "int" = none
  n_list : mg "list" = none
  n_str : mg "str" = none
  n_isinstance : mg "isinstance" = none
  n_all : mg "all" = none
  n_tuple : mg "tuple" = none
  n_set : mg "set" = none
  lETTERS : ∃ t, mg "LETTERS" = some (.str "abcdefghijklmnopqrstuvwxyz" t)
  mLETTERS : ∃ t, mg "MOST_LETTERS" = some (.int 8 t)
  mRULES : ∃ t, mg "MOST_RULES_WITHIN" = some (.int 10 t)
  mINPUTS : ∃ t, mg "MOST_INPUTS" = some (.int 4 t)
  mGATES : ∃ t, mg "MOST_GATES" = some (.int 7 t)
  pARTS : mg "PARTS_OF_RULE" = some (.ref TT)
  tab : tabAt K TT [("wire", .flat (.int 2)), ("not", .flat (.int 2)), ("and", .flat (.int 3)), ("or", .flat (.int 3))]
  bet : ∃ TB, mg "BETWEEN" = some (.ref TB) ∧ tabAt K TB betD
  kin : ∃ TK, mg "KINDS" = some (.ref TK) ∧ tabAt K TK kinD
structure Dk where
  d : Addr
noncomputable def Dk.own (D : Dk) (b : Addr) : Prop := b = D.d
noncomputable def Dk.At (D : Dk) (H : Hp) : Prop := ∃ xs : List Int, H D.d = some (.lst (xs.map V.int))
structure Kp (D : Dk) (H H' : Hp) : Prop where
  old : ∀ b o, H b = some o → ¬ D.own b → H' b = some o
  dk : D.At H'
noncomputable def spDraw : Sp := fun vs H Q _ => ∃ (D : Dk) (m : Int), vs = [.ref D.d, .int m] ∧ D.At H ∧ 1 ≤ m ∧ m ≤ 100000 ∧ ∀ (r : Int) H', 0 ≤ r → r < m → Kp D H H' → Q (.int r) H'

inductive Rl where
  | w (n : Str) | no (r : Rl) | an (a b : Rl) | orr (a b : Rl)
noncomputable def Rl.ok (ns : List Str) : Rl → Prop
  | .w n => n ∈ ns
  | .no r => r.ok ns
  | .an a b => a.ok ns ∧ b.ok ns
  | .orr a b => a.ok ns ∧ b.ok ns
noncomputable def Rl.dep : Rl → Nat
  | .w _ => 1
  | .no r => r.dep + 1
  | .an a b => max a.dep b.dep + 1
  | .orr a b => max a.dep b.dep + 1
noncomputable def Rl.val (f : Str → Bool) : Rl → Bool
  | .w n => f n
  | .no r => !r.val f
  | .an a b => a.val f && b.val f
  | .orr a b => a.val f || b.val f
inductive RAt (H : Hp) : V → Rl → Prop where
  | w {a : Addr} {n : Str} : H a = some (.tup [.str "wire", .str n]) → RAt H (.ref a) (.w n)
  | no {a : Addr} {v : V} {r : Rl} : H a = some (.tup [.str "not", v]) → RAt H v r → RAt H (.ref a) (.no r)
  | an {a : Addr} {v u : V} {r s : Rl} : H a = some (.tup [.str "and", v, u]) → RAt H v r → RAt H u s → RAt H (.ref a) (.an r s)
  | orr {a : Addr} {v u : V} {r s : Rl} : H a = some (.tup [.str "or", v, u]) → RAt H v r → RAt H u s → RAt H (.ref a) (.orr r s)
noncomputable def KeepT (H H' : Hp) : Prop := ∀ b xs, H b = some (.tup xs) → H' b = some (.tup xs)
theorem Same.tups {H H' : Hp} (S : Same H H') : KeepT H H' := fun b xs e => S b _ e
theorem RAt.mono {H H' : Hp} (hs : KeepT H H') {v : V} {r : Rl} (h : RAt H v r) : RAt H' v r := by
  induction h with
  | w e => exact .w (hs _ _ e)
  | no e _ ih => exact .no (hs _ _ e) ih
  | an e _ _ i1 i2 => exact .an (hs _ _ e) i1 i2
  | orr e _ _ i1 i2 => exact .orr (hs _ _ e) i1 i2
theorem Dk.At.same {D : Dk} {H H' : Hp} (S : Same H H') (h : D.At H) : D.At H' := let ⟨xs, e⟩ := h; ⟨xs, S _ _ e⟩
theorem Kp.of {D : Dk} {H H' : Hp} (h : D.At H) (S : Same H H') : Kp D H H' := ⟨fun b o e _ => S b o e, h.same S⟩
theorem Kp.trans {D : Dk} {H H1 H2 : Hp} (a : Kp D H H1) (b : Kp D H1 H2) : Kp D H H2 := ⟨fun c o e n => b.old c o (a.old c o e n) n, b.dk⟩
theorem Kp.tups {D : Dk} {H H' : Hp} (DA : D.At H) (k : Kp D H H') : KeepT H H' := fun b xs e => k.old b _ e fun z => by
  obtain ⟨ys, q⟩ := DA
  cases z
  rw [q] at e
  cases e
theorem Kp.fresh {D : Dk} {H H' : Hp} {L : Addr} {o : HO} (DA : D.At H) (hL : H L = none) (k : Kp D H H') : Kp D H (upd H' L o) := by
  obtain ⟨a0, e0⟩ := DA
  obtain ⟨a, e⟩ := k.dk
  exact ⟨fun b u e nb => by rw [upd_ne (ne_of_none e hL)]; exact k.old b u e nb, ⟨a, by rw [upd_ne (ne_of_none e0 hL)]; exact e⟩⟩
theorem Kp.new {D : Dk} {H H' : Hp} {p : Addr} {o : HO} (k : Kp D H H') (hp : H' p = none) : Kp D H (upd H' p o) := k.trans (Kp.of k.dk (fresh_same hp))
theorem Kp.free {D : Dk} {H H' : Hp} {l : Addr} (k : Kp D H H') (h : H' l = none) : H l = none := by
  cases e : H l with
  | none => rfl
  | some o =>
    exfalso
    by_cases c : D.own l
    · obtain ⟨a, q⟩ := k.dk
      cases c
      rw [q] at h
      cases h
    · rw [k.old l o e c] at h
      cases h
theorem notOwn_fresh {D : Dk} {H : Hp} {p : Addr} (DA : D.At H) (hp : H p = none) : ¬ D.own p := fun z => by
  obtain ⟨a, e⟩ := DA
  cases z
  rw [e] at hp
  cases hp
noncomputable def GAt (H : Hp) (v : V) (g : Str × Rl) : Prop := ∃ b rv, v = .ref b ∧ H b = some (.tup [.str g.1, rv]) ∧ RAt H rv g.2
theorem GAt.mono {H H' : Hp} (hs : KeepT H H') {v : V} {g : Str × Rl} (h : GAt H v g) : GAt H' v g := let ⟨b, rv, e, h1, h2⟩ := h; ⟨b, rv, e, hs _ _ h1, h2.mono hs⟩
structure NAt (H : Hp) (a li lg : Addr) (ins : List Str) (vs : List V) (gs : List (Str × Rl)) : Prop where
  ha : H a = some (.tup [.ref li, .ref lg])
  hi : H li = some (.lst (ins.map V.str))
  hg : H lg = some (.lst vs)
  gates : Paired (GAt H) vs gs
theorem upd_pair {H H' : Hp} {p : Addr} {o : HO} (h : H p = none) (e : upd H p o = H') : Same H H' ∧ H' p = some o := by
  subst e
  exact ⟨fresh_same h, upd_same⟩
theorem i_un {r : V → Hp → VK → Prop} {ta : TE} {σ : St} {H : Hp} {Q : VK} (q : ta σ H fun x H1 => r x H1 Q) : tUn r ta σ H Q := q
theorem i_rU {g : Int → V} {i : Int} {H : Hp} {Q : VK} (q : Q (g i) H) : rU g (.int i) H Q := ⟨i, rfl, q⟩
theorem gates_refs {H : Hp} : ∀ {vs : List V} {gs : List (Str × Rl)}, Paired (GAt H) vs gs → ∀ x ∈ vs, ∃ a, x = V.ref a
  | _, _, .nil => fun x hx => nomatch hx
  | _, _, .cons h t => fun x hx => by
    rcases List.mem_cons.mp hx with e | hx
    · obtain ⟨b, _, e', _⟩ := h; exact ⟨b, e.trans e'⟩
    · exact gates_refs t x hx
theorem gates_mono {H H' : Hp} (hs : KeepT H H') : ∀ {vs : List V} {gs : List (Str × Rl)}, Paired (GAt H) vs gs → Paired (GAt H') vs gs
  | _, _, .nil => .nil
  | _, _, .cons h t => .cons (h.mono hs) (gates_mono hs t)
theorem NAt.same {H H' : Hp} {a li lg : Addr} {ins : List Str} {vs : List V} {gs : List (Str × Rl)} (S : Same H H') (h : NAt H a li lg ins vs gs) : NAt H' a li lg ins vs gs := ⟨S _ _ h.ha, S _ _ h.hi, S _ _ h.hg, gates_mono (Same.tups S) h.gates⟩
noncomputable def wiresN (ins : List Str) (gs : List (Str × Rl)) : List Str := ins ++ gs.map (·.1)
structure Low (z : Str) : Prop where
  l1 : 1 ≤ z.length
  l8 : z.length ≤ 8
  low : ∀ c ∈ z.cps.toList, 97 ≤ c ∧ c ≤ 122
structure NetOk (ins : List Str) (gs : List (Str × Rl)) : Prop where
  i4 : ins.length ≤ 20
  g7 : gs.length ≤ 20
  rules : ∀ g ∈ gs, g.2.ok (wiresN ins gs) ∧ g.2.dep ≤ 10
  low : ∀ n ∈ wiresN ins gs, Low n
abbrev IsNet (ins : List Str) (gs : List (Str × Rl)) : Prop := ins.length ≤ 4 ∧ 1 ≤ gs.length ∧ gs.length ≤ 7 ∧ (wiresN ins gs).Nodup
end K2
set_option Elab.async false
set_option linter.all false
set_option maxRecDepth 100000
set_option maxHeartbeats 4000000
namespace K2
open PySem L2
local macro_rules | `(tactic| walk_at "vc") => `(tactic| first
  | (with_reducible refine s_seq ?_) | (with_reducible refine s_asg ?_) | (with_reducible refine s_name ?_) | (with_reducible refine s_drop ?_) | (with_reducible refine s_ret ?_) | (with_reducible refine s_if ?_) | (with_reducible refine s_sub ?_) | (with_reducible refine s_next ?_)
  | ((with_reducible refine' i_var ?hv ?_); (case hv => exact rfl)) | (with_reducible refine i_c ?_) | (with_reducible refine i_op ?_) | (with_reducible refine i_rI0 ?_) | (with_reducible refine i_test ?_) | (with_reducible refine i_tB ?_) | (with_reducible refine i_and ?_) | (with_reducible refine i_or ?_)
  | (with_reducible refine i_not ?_) | (with_reducible refine i_andV ?_) | (with_reducible refine i_orV ?_) | (with_reducible refine i_notV ?_) | (with_reducible refine i_ifE ?_) | (with_reducible refine i_nil ?_) | (with_reducible refine i_cons ?_) | (with_reducible refine i_call ?_) | (with_reducible refine i_cb ?_)
  | (with_reducible refine i_tup ?_) | (with_reducible refine i_lst ?_) | (with_reducible refine i_bm ?_) | (with_reducible refine i_sl ?_) | (with_reducible refine i_nopart ?_) | (with_reducible refine i_part ?_) | ((with_reducible show ∃ i, V.int _ = V.int i ∧ _); (refine ⟨_, rfl, ?_⟩)) | ((with_reducible show ∃ k, V.bl _ = V.bl k ∧ _); (refine ⟨_, rfl, ?_⟩)) | ((with_reducible show (∃ i, [V.bl _] = [V.int i] ∧ _) ∨ _); (refine Or.inr ⟨_, rfl, ?_⟩))
  | (with_reducible refine s_for ?_) | (with_reducible refine s_rng1 ?_) | (with_reducible refine s_list ?_) | (with_reducible refine s_str ?_) | (with_reducible refine s_strI ?_) | (with_reducible refine i_comp ?_) | (with_reducible refine iteF ?_) | (with_reducible refine iteT ?_)
  | ((with_reducible refine' i_ixL ?ha ?hb ?_); (case ha => exact SqL.of (by assumption)); (case hb => exact rfl)) | ((with_reducible refine' i_ixT ?ha ?hb ?_); (case ha => assumption); (case hb => exact rfl))
  | ((with_reducible show ∃ p _, [V.ref _] = [V.ref p] ∧ (SqL _ _ _ _ ∨ SqT _ _ _ _) ∧ _); (refine' ⟨_, _, rfl, Or.inl (SqL.of ?ha), ?_⟩); (case ha => assumption)) | ((with_reducible refine' s_setL ?ha ?hb ?_); (case ha => assumption); (case hb => exact rfl))
  | ((with_reducible refine' i_eq ?ha ?_); (case ha => exact rfl)) | ((with_reducible refine' i_ne ?ha ?_); (case ha => exact rfl)))

noncomputable def spWires : Sp := fun vs H Q _ => ∃ a li lg ins gvs gs, vs = [.ref a] ∧ NAt H a li lg ins gvs gs ∧ NetOk ins gs ∧ ∀ l H', Same H H' → H l = none → H' l = some (.lst ((wiresN ins gs).map V.str)) → Q (.ref l) H'
noncomputable def spGates : Sp := fun vs H Q _ => ∃ a li lg ins gvs gs, vs = [.ref a] ∧ NAt H a li lg ins gvs gs ∧ NetOk ins gs ∧ ∀ l H', Same H H' → H l = none → H' l = some (.lst ((gs.map (·.1)).map V.str)) → Q (.ref l) H'
theorem i_yes {σ : St} {H : Hp} {R : Bool → Hp → Prop} (q : R true H) : tYes σ H R := q
theorem i_dget {td ty : TE} {σ : St} {H : Hp} {Q : VK} (q : td σ H fun x H1 => ty σ H1 fun y H2 => ∃ a v, x = .ref a ∧ DGet H2 a y (some v) ∧ Q v H2) : tDGet td ty σ H Q := q
theorem ifT {c : Bool} {A B : Prop} (hc : c = true) (h : A) : if c = true then A else B := by rw [if_pos hc]; exact h
theorem ifF {c : Bool} {A B : Prop} (hc : c = false) (h : B) : if c = true then A else B := by subst hc; exact iteF h
theorem same_upd {H H' : Hp} {D : Addr} {o : HO} (S : Same H H') (hD : H D = none) : Same H (upd H' D o) := fun b u e => by rw [upd_ne (ne_of_none e hD)]; exact S b u e
theorem comp_gate {K : PySem.W.Frag} {σ : St} {H : Hp} {Q : VK} {i : Nat} {c : Int} {a li lg : Addr} {gvs vals : List V} (hσ : σ[i]? = some (some (.ref a))) (ha : H a = some (.tup [.ref li, .ref lg])) (hg : H lg = some (.lst gvs)) (hs : gvs.length ≤ 1000)
    (hx : ∀ (j : Nat) x, gvs[j]? = some x → ∃ b ys v, x = .ref b ∧ H b = some (.tup ys) ∧ atI ys c = some v ∧ vals[j]? = some v) (hl : vals.length = gvs.length)
    (q : ∀ D H', H D = none → Same H H' → H' D = some (.lst vals) → Q (.ref D) H') :
    tComp (iList K (tOp (rIxT K) (tVar i) (tC (V.int 1)))) (gName 0) tYes (tOp (rIxT K) (tVar 0) (tC (V.int c))) (blockSt [Str.ofString "gate"] []) σ H Q := by
  refine i_comp (s_list (i_op (i_var hσ (i_c (i_ixT ha rfl ⟨lg, rfl, ⟨_, SqL.of hg⟩, fun D hD => ?_⟩)))))
  have big : 1000 < sizeLine := by decide
  refine comp_list (xs := gvs) (fun n H' ys => Same H H' ∧ H' D = some (.lst ys) ∧ ys = vals.take n) ⟨fresh_same hD, upd_same, by simp⟩ (fun n H' ys p => ⟨p.2.1, SqL.of (p.1 _ _ hg)⟩) (fun n x H' ys e p => ?_) (fun H' ys p => ?_)
  · obtain ⟨S, hd, rfl⟩ := p
    obtain ⟨b, zs, v, rfl, hb, hv, hv2⟩ := hx n x e
    have hn : n < gvs.length := (List.getElem?_eq_some_iff.mp e).1
    refine s_name ⟨trivial, ?_⟩
    refine i_yes (iteT ?_)
    refine i_op (i_var rfl (i_c (i_ixT (S _ _ hb) hv (NextC.mk hd hn (by rw [List.length_take]; omega) ⟨same_upd S hD, upd_same, ?_⟩))))
    rw [List.take_succ, hv2]; rfl
  · obtain ⟨S, hd, rfl⟩ := p
    exact q D H' hD S (by rw [hd, List.take_of_length_le (by omega)])
theorem paired_at {α β : Type} {F : α → β → Prop} : ∀ {xs : List α} {ys : List β}, Paired F xs ys → ∀ (j : Nat) x, xs[j]? = some x → ∃ y, ys[j]? = some y ∧ F x y
  | _, _, .nil => fun j x e => by simp at e
  | _, _, .cons (a := a) (b := b) h t => fun j x e => by
    cases j with
    | zero => simp at e; subst e; exact ⟨_, rfl, h⟩
    | succ j => simp at e; obtain ⟨y, e', f⟩ := paired_at t j x e; exact ⟨y, by simpa using e', f⟩
theorem paired_len {α β : Type} {F : α → β → Prop} : ∀ {xs : List α} {ys : List β}, Paired F xs ys → xs.length = ys.length
  | _, _, .nil => rfl
  | _, _, .cons h t => by simp [paired_len t]
theorem comp_names {K : PySem.W.Frag} {σ : St} {H : Hp} {Q : VK} {i : Nat} {a li lg : Addr} {ins : List Str} {gvs : List V} {gs : List (Str × Rl)} (hσ : σ[i]? = some (some (.ref a))) (NA : NAt H a li lg ins gvs gs) (ok : NetOk ins gs)
    (q : ∀ D H', H D = none → Same H H' → H' D = some (.lst ((gs.map (·.1)).map V.str)) → Q (.ref D) H') :
    tComp (iList K (tOp (rIxT K) (tVar i) (tC (V.int 1)))) (gName 0) tYes (tOp (rIxT K) (tVar 0) (tC (V.int 0))) (blockSt [Str.ofString "gate"] []) σ H Q := by
  have l := paired_len NA.gates
  have g7 := ok.g7
  refine comp_gate (vals := (gs.map (·.1)).map V.str) hσ NA.ha NA.hg (by omega) (fun j x e => ?_) (by simp [l]) q
  obtain ⟨g, e', b, rv, rfl, hb, hr⟩ := paired_at NA.gates j x e
  exact ⟨b, _, _, rfl, hb, rfl, by simp [e']⟩
theorem wires_len {ins : List Str} {gs : List (Str × Rl)} (ok : NetOk ins gs) : (ins.map V.str).length + ((gs.map (·.1)).map V.str).length ≤ sizeLine := by
  have g7 := ok.g7
  have i4 := ok.i4
  have big : 1000 < sizeLine := by decide
  simp only [List.length_map]
  omega
theorem wires_map (ins : List Str) (gs : List (Str × Rl)) : ins.map V.str ++ (gs.map (·.1)).map V.str = (wiresN ins gs).map V.str := by unfold wiresN; rw [List.map_append]
section
variable {P : Program} {w : World} {K : PySem.W.Frag} {mg : Str → Option Value} {base : Heap} {TT : Addr}
theorem sc_gates_of : FnScope ["net"] ["net"] (defScope (top 15)) := ⟨rfl, rfl, rfl, by decide +kernel, rfl, by decide +kernel, by decide +kernel⟩
theorem ok_gates {f : Addr} {fd : FuncData} (Fu : Fun K "gates_of" "gates_of" (top 15) f fd) (T : Txt K mg TT) : FnOk P w K mg base CX0 1 f fd ["net"] spGates := by
  have S := sc_gates_of
  refine Fu.ok S (fun vs H Q E h => ?_) (fun cdv A outer s H vs Q E hr h => ?_)
  · obtain ⟨a, li, lg, ins, gvs, gs, rfl, _⟩ := h
    rfl
  · obtain ⟨a, li, lg, ins, gvs, gs, rfl, NA, ok, k⟩ := h
    refine ⟨_, (pss_one (ps_ret (pe_lc (tgs := ["gate"]) (cap := []) rfl ⟨rfl, rfl, rfl, rfl, rfl, rfl⟩ (pi_list (pe_ix ix_tup (pv 0) pe_int (fun _ _ => rfl))) (fun _ _ _ _ => (pg_name (i := 0) (show List.Nodup [("gate" : Str)] by decide +kernel) rfl (by first | exact Or.inl rfl | exact Or.inr rfl))) (fun _ _ _ _ => pifs_nil) (fun _ _ _ _ => (pe_ix (ix_tupK (K := K) rfl) (pv 0) pe_int (fun _ _ => rfl)))))), ?_⟩
    dsimp only [cxOf, Cx.nox, Cx.wish]
    rw [show L2.start ["net"] [V.ref a] = [some (.ref a)] from rfl]
    refine comp_names (Q := Q) rfl NA ok fun D H2 hD s2 h2 => ?_
    exact k D H2 s2 hD h2
theorem sc_wires_of : FnScope ["net"] ["net"] (defScope (top 16)) := ⟨rfl, rfl, rfl, by decide +kernel, rfl, by decide +kernel, by decide +kernel⟩
theorem ok_wires {f : Addr} {fd : FuncData} (Fu : Fun K "wires_of" "wires_of" (top 16) f fd) (T : Txt K mg TT) (f_gates_of : Fn P w K mg base "gates_of" ["net"] 1 spGates) : FnOk P w K mg base CX0 2 f fd ["net"] spWires := by
  have S := sc_wires_of
  refine Fu.ok S (fun vs H Q E h => ?_) (fun cdv A outer s H vs Q E hr h => ?_)
  · obtain ⟨a, li, lg, ins, gvs, gs, rfl, _⟩ := h
    rfl
  · obtain ⟨a, li, lg, ins, gvs, gs, rfl, NA, ok, k⟩ := h
    obtain ⟨ha, hi, hg, gts⟩ := id NA
    refine ⟨_, (pss_one (ps_ret (pe_op op_cat (pe_callTy call_list_of (by rfl) T.n_list PyProof.Rows.boot_list (pa_cons (pe_ix ix_tup (pv 0) pe_int (fun _ _ => rfl)) pa_nil)) (pe_fn f_gates_of (hr.mono (by first | decide | omega)) (by rfl) (pa_cons (pv 0) pa_nil))))), ?_⟩
    dsimp only [cxOf, Cx.nox, Cx.wish]
    rw [show L2.start ["net"] [V.ref a] = [some (.ref a)] from rfl]
    repeat walk_at "vc"
    intro l hl
    have s1 := fresh_same (o := .lst (ins.map V.str)) hl
    have NA1 := NA.same s1
    repeat walk_at "vc"
    refine ⟨a, li, lg, ins, gvs, gs, rfl, NA1, ok, fun D H2 s2 hD h2 => ?_⟩
    have hl2 : H2 l = some (.lst (ins.map V.str)) := s2 _ _ upd_same
    refine i_cat hl2 h2 (wires_len ok) fun p hp => ?_
    have hs : Same H (upd H2 p (HO.lst (ins.map V.str ++ (gs.map (·.1)).map V.str))) := s1.trans (s2.trans (fresh_same hp))
    refine k p _ hs (Same.free (s1.trans s2) hp) ?_
    rw [upd_same, wires_map]
end
end K2
set_option Elab.async false
set_option linter.all false
set_option maxRecDepth 100000
set_option maxHeartbeats 4000000
namespace K2
open PySem L2
local macro_rules | `(tactic| walk_at "vc") => `(tactic| first
  | (with_reducible refine s_seq ?_) | (with_reducible refine s_asg ?_) | (with_reducible refine s_name ?_) | (with_reducible refine s_drop ?_) | (with_reducible refine s_ret ?_) | (with_reducible refine s_if ?_) | (with_reducible refine s_sub ?_) | (with_reducible refine s_next ?_)
  | ((with_reducible refine' i_var ?hv ?_); (case hv => exact rfl)) | (with_reducible refine i_c ?_) | (with_reducible refine i_op ?_) | (with_reducible refine i_rI0 ?_) | (with_reducible refine i_test ?_) | (with_reducible refine i_tB ?_) | (with_reducible refine i_and ?_) | (with_reducible refine i_or ?_)
  | (with_reducible refine i_not ?_) | (with_reducible refine i_andV ?_) | (with_reducible refine i_orV ?_) | (with_reducible refine i_notV ?_) | (with_reducible refine i_ifE ?_) | (with_reducible refine i_nil ?_) | (with_reducible refine i_cons ?_) | (with_reducible refine i_call ?_) | (with_reducible refine i_cb ?_)
  | (with_reducible refine i_tup ?_) | (with_reducible refine i_lst ?_) | (with_reducible refine i_bm ?_) | (with_reducible refine i_sl ?_) | (with_reducible refine i_nopart ?_) | (with_reducible refine i_part ?_) | ((with_reducible show ∃ i, V.int _ = V.int i ∧ _); (refine ⟨_, rfl, ?_⟩)) | ((with_reducible show ∃ k, V.bl _ = V.bl k ∧ _); (refine ⟨_, rfl, ?_⟩)) | ((with_reducible show (∃ i, [V.bl _] = [V.int i] ∧ _) ∨ _); (refine Or.inr ⟨_, rfl, ?_⟩))
  | (with_reducible refine s_for ?_) | (with_reducible refine s_rng1 ?_) | (with_reducible refine s_list ?_) | (with_reducible refine s_str ?_) | (with_reducible refine s_strI ?_) | (with_reducible refine iteF ?_) | (with_reducible refine iteT ?_)
  | ((with_reducible refine' i_ixL ?ha ?hb ?_); (case ha => exact SqL.of (by assumption)); (case hb => exact rfl)) | ((with_reducible refine' i_ixT ?ha ?hb ?_); (case ha => assumption); (case hb => exact rfl))
  | ((with_reducible show ∃ p _, [V.ref _] = [V.ref p] ∧ (SqL _ _ _ _ ∨ SqT _ _ _ _) ∧ _); (refine' ⟨_, _, rfl, Or.inl (SqL.of ?ha), ?_⟩); (case ha => assumption)) | ((with_reducible refine' s_setL ?ha ?hb ?_); (case ha => assumption); (case hb => exact rfl))
  | ((with_reducible refine' i_eq ?ha ?_); (case ha => exact rfl)) | ((with_reducible refine' i_ne ?ha ?_); (case ha => exact rfl))
  | (with_reducible refine i_dget ?_) | (with_reducible refine i_yes ?_) | ((with_reducible show ∃ z, V.str _ = V.str z ∧ _); (refine ⟨_, rfl, ?_⟩))
  | (with_reducible refine i_un ?_) | (with_reducible refine i_rU ?_)
  | ((with_reducible refine' i_rI ?hv ?_); (case hv => first | decide | (dsimp only; omega) | exact .inl ⟨by omega, by omega⟩ | exact .inr ⟨by omega, by omega⟩ | exact ⟨by decide, by decide⟩ | exact ⟨by decide, by decide, by decide⟩ | exact ⟨by omega, by omega⟩))
  | ((with_reducible show ∃ i, [V.int _] = [V.int i] ∧ _); (refine ⟨_, rfl, ?_⟩))
  | ((with_reducible show tyV _ "list" _ _ ∧ _); (refine' ⟨i_tyL ?ha, ?_⟩); (case ha => assumption)))

noncomputable def spPair : Sp := fun vs H Q _ => ∃ a xs, vs = [.ref a] ∧ H a = some (.tup xs) ∧ xs.length ≤ 1000 ∧ Q (.bl (decide (xs.length = 2))) H
noncomputable def spName : Sp := fun vs H Q _ => ∃ z, vs = [.str z] ∧ Low z ∧ ∀ H', Same H H' → Q (.bl true) H'
theorem i_chain {r r' : R2} {ta tb tc : TE} {σ : St} {H : Hp} {Q : VK} (q : ta σ H fun x H1 => tb σ H1 fun y H2 => r x y H2 fun z H3 => ∃ k, z = .bl k ∧ (if k = true then tc σ H3 fun w' H4 => r' y w' H4 Q else Q (.bl false) H3)) : tChain r r' ta tb tc σ H Q := q
theorem low_in {c : Nat} (h : 97 ≤ c ∧ c ≤ 122) : (!(Builtin.Str.occurrences (Str.ofString "abcdefghijklmnopqrstuvwxyz") (⟨#[c]⟩ : Str) 0 (Str.ofString "abcdefghijklmnopqrstuvwxyz").length 1).isEmpty) = true := by
  have all : ∀ k : Fin 26, (!(Builtin.Str.occurrences (Str.ofString "abcdefghijklmnopqrstuvwxyz") (⟨#[97 + k.val]⟩ : Str) 0 (Str.ofString "abcdefghijklmnopqrstuvwxyz").length 1).isEmpty) = true := by decide +kernel
  have q := all ⟨c - 97, by omega⟩
  have e : 97 + (c - 97) = c := by omega
  simpa only [e] using q
section
variable {P : Program} {w : World} {K : PySem.W.Frag} {mg : Str → Option Value} {base : Heap} {TT : Addr}
theorem sc_is_pair : FnScope ["thing"] ["thing"] (defScope (top 12)) := ⟨rfl, rfl, rfl, by decide +kernel, rfl, by decide +kernel, by decide +kernel⟩
theorem ok_pair {f : Addr} {fd : FuncData} (Fu : Fun K "is_pair" "is_pair" (top 12) f fd) (T : Txt K mg TT) : FnOk P w K mg base CX0 1 f fd ["thing"] spPair := by
  have S := sc_is_pair
  refine Fu.ok S (fun vs H Q E h => ?_) (fun cdv A outer s H vs Q E hr h => ?_)
  · obtain ⟨a, xs, rfl, _⟩ := h
    rfl
  · obtain ⟨a, xs, rfl, ha, hx, q⟩ := h
    refine ⟨_, (pss_one (ps_ret (pe_and (pe_callB call_isinst (by rfl) T.n_isinstance PyProof.Rows.boot_isinstance (pa_cons (pv 0) (pa_cons (pe_bltn (v := .ty "tuple") (by rfl) T.n_tuple PyProof.Rows.boot_tuple rfl) pa_nil))) (pe_one (pe_cmpR op_eq (pe_callB call_len_seq (by rfl) T.n_len PySem.boot_len (pa_cons (pv 0) pa_nil)) pe_int (nomark _)))))), ?_⟩
    dsimp only [cxOf, Cx.nox, Cx.wish]
    rw [show L2.start ["thing"] [V.ref a] = [some (.ref a)] from rfl]
    repeat walk_at "vc"
    refine ⟨_, _, _, true, rfl, .tup ha, kit_same _, ?_⟩
    refine ⟨_, rfl, iteT ?_⟩
    repeat walk_at "vc"
    refine ⟨a, xs, rfl, .inr (SqT.of ha), ?_⟩
    repeat walk_at "vc"
    have e : decide (V.int ↑xs.length = V.int 2) = decide (xs.length = 2) := by
      rw [Bool.eq_iff_iff, decide_eq_true_iff, decide_eq_true_iff]
      constructor
      · intro h
        injection h with h
        omega
      · intro h
        rw [h]; rfl
    rw [e]
    exact q
theorem sc_is_name : FnScope ["thing"] ["thing"] (defScope (top 10)) := ⟨rfl, rfl, rfl, by decide +kernel, rfl, by decide +kernel, by decide +kernel⟩
theorem ok_name {f : Addr} {fd : FuncData} (Fu : Fun K "is_name" "is_name" (top 10) f fd) (T : Txt K mg TT) : FnOk P w K mg base CX0 1 f fd ["thing"] spName := by
  have S := sc_is_name
  refine Fu.ok S (fun vs H Q E h => ?_) (fun cdv A outer s H vs Q E hr h => ?_)
  · obtain ⟨z, rfl, _⟩ := h
    rfl
  · obtain ⟨z, rfl, lz, q⟩ := h
    obtain ⟨_, gLT⟩ := T.lETTERS
    obtain ⟨_, gML⟩ := T.mLETTERS
    refine ⟨_, (pss_cons (ps_if (PW.pt (pw_or (pt_not (pt_val (pe_callB call_isinst (by rfl) T.n_isinstance PyProof.Rows.boot_isinstance (pa_cons (pv 0) (pa_cons (pe_bltn (v := .ty "str") (by rfl) T.n_str PyProof.Rows.boot_str rfl) pa_nil))))) (pw_or1 (pt_not (pt_chain op_le op_le pe_int (pe_callB call_len_str (by rfl) T.n_len PySem.boot_len (pa_cons (pv 0) pa_nil)) (pe_glob (v := .int 8) (by rfl) gML ⟨_, rfl⟩)))))) (pss_one (ps_ret pe_bl)) pss_nil)
      (pss_one (ps_ret (pe_callB (call_all rfl) (by rfl) T.n_all PyProof.Rows.boot_all (pa_cons (pe_lc (tgs := ["sign"]) (cap := []) rfl ⟨rfl, rfl, rfl, rfl, rfl, rfl⟩ (pi_str (pv 0)) (fun _ _ _ _ => (pg_name (i := 0) (show List.Nodup [("sign" : Str)] by decide +kernel) rfl (by first | exact Or.inl rfl | exact Or.inr rfl))) (fun _ _ _ _ => pifs_nil) (fun _ _ _ _ => (pe_cmpR op_in_str (pv 0) (pe_glob (v := .str "abcdefghijklmnopqrstuvwxyz") (by rfl) gLT ⟨_, rfl⟩) rfl))) pa_nil))))), ?_⟩
    dsimp only [cxOf, Cx.nox, Cx.wish]
    rw [show L2.start ["thing"] [V.str z] = [some (.str z)] from rfl]
    repeat walk_at "vc"
    refine ⟨_, _, _, _, rfl, TyOf.str z, kit_same "str", ?_⟩
    refine ⟨_, rfl, iteF ?_⟩
    have big : 1000 < sizeLine := by decide
    have l1 := lz.l1
    have l8 := lz.l8
    repeat walk_at "vc"
    refine i_chain ?_
    repeat walk_at "vc"
    refine ⟨_, rfl, by omega, ?_⟩
    repeat walk_at "vc"
    refine ifT (decide_eq_true (by omega)) ?_
    repeat walk_at "vc"
    refine ifF (by rw [decide_eq_true (by omega)]; rfl) ?_
    repeat walk_at "vc"
    refine i_comp ?_
    repeat walk_at "vc"
    intro D hD
    refine comp_itf (fun n H' ys => Same H H' ∧ H' D = some (.lst ys) ∧ ys = (List.replicate n true).map V.bl) ⟨fresh_same hD, upd_same, rfl⟩ (fun n H' ys p => p.2.1) (fun n H' ys hn p => ?_) (fun H' ys p => ?_)
    · obtain ⟨Sm, hd, rfl⟩ := p
      refine s_name ⟨trivial, i_yes (iteT ?_)⟩
      refine i_op (i_var rfl (i_c ⟨_, _, rfl, rfl, ?_⟩))
      refine NextC.mk hd hn (by rw [List.length_map, List.length_replicate]; have : z.cps.size = z.length := rfl; omega) ⟨same_upd Sm hD, upd_same, ?_⟩
      have hc := low_in (c := z.cps.getD n 0) (by
        have e : z.cps.getD n 0 = z.cps[n] := by simp [Array.getD, hn]
        rw [e]
        exact lz.low _ (by simp))
      rw [List.replicate_succ', List.map_append]
      exact congrArg (fun b => List.map V.bl (List.replicate n true) ++ [V.bl b]) hc
    · obtain ⟨Sm, hd, rfl⟩ := p
      refine i_nil ⟨_, _, rfl, SqL.of hd, ?_⟩
      have e : (List.replicate z.cps.size true).all id = true := by simp
      rw [e]
      exact q H' Sm
end
set_option Elab.async false
set_option linter.all false
set_option maxRecDepth 100000
set_option maxHeartbeats 4000000

noncomputable def spUnlike : Sp := fun vs H Q _ => ∃ (l : Addr) (ts : List Str), vs = [.ref l] ∧ H l = some (.lst (ts.map V.str)) ∧ ts.length ≤ 100 ∧ (∀ z ∈ ts, Low z) ∧ ∀ H', Same H H' → Q (.bl (decide ts.Nodup)) H'
theorem i_lens {K : PySem.W.Frag} {ta : TA} {σ : St} {H : Hp} {Q : VK} (q : ta σ H fun vs H1 => ∃ (l : Addr) (ts : List Str), vs = [.ref l] ∧ SqL K H1 l (ts.map V.str) ∧ ts.length < 1000 ∧ Q (.int (uniq ts)) H1) : tLenSet K ta σ H Q := q
section
variable {P : Program} {w : World} {K : PySem.W.Frag} {mg : Str → Option Value} {base : Heap} {TT : Addr}
theorem sc_are_unlike_names : FnScope ["things"] ["things"] (defScope (top 13)) := ⟨rfl, rfl, rfl, by decide +kernel, rfl, by decide +kernel, by decide +kernel⟩
theorem ok_unlike {f : Addr} {fd : FuncData} (Fu : Fun K "are_unlike_names" "are_unlike_names" (top 13) f fd) (T : Txt K mg TT) (f_is_name : Fn P w K mg base "is_name" ["thing"] 1 spName) : FnOk P w K mg base CX0 2 f fd ["things"] spUnlike := by
  have S := sc_are_unlike_names
  refine Fu.ok S (fun vs H Q E h => ?_) (fun cdv A outer s H vs Q E hr h => ?_)
  · obtain ⟨l, ts, rfl, _⟩ := h
    rfl
  · obtain ⟨l, ts, rfl, hl, sz, low, q⟩ := h
    refine ⟨_, (pss_one (ps_ret (pe_and (pe_callB (call_all rfl) (by rfl) T.n_all PyProof.Rows.boot_all (pa_cons (pe_lc (tgs := ["thing"]) (cap := []) rfl ⟨rfl, rfl, rfl, rfl, rfl, rfl⟩ (pi_list (pv 0)) (fun _ _ _ _ => (pg_name (i := 0) (show List.Nodup [("thing" : Str)] by decide +kernel) rfl (by first | exact Or.inl rfl | exact Or.inr rfl))) (fun _ _ _ _ => pifs_nil) (fun _ _ _ _ => (pe_fn f_is_name (hr.mono (by first | decide | omega)) (by rfl) (pa_cons (pv 0) pa_nil)))) pa_nil)) (pe_one (pe_cmpR op_eq (pe_lenset rfl (by rfl) T.n_len (by rfl) T.n_set (pa_cons (pv 0) pa_nil)) (pe_callB call_len_seq (by rfl) T.n_len PySem.boot_len (pa_cons (pv 0) pa_nil)) (nomark _)))))), ?_⟩
    dsimp only [cxOf, Cx.nox, Cx.wish]
    rw [show L2.start ["things"] [V.ref l] = [some (.ref l)] from rfl]
    have big : 1000 < sizeLine := by decide
    repeat walk_at "vc"
    refine i_comp ?_
    repeat walk_at "vc"
    refine ⟨l, rfl, ⟨_, SqL.of hl⟩, fun D hD => ?_⟩
    refine comp_list (xs := ts.map V.str) (fun n H' ys => Same H H' ∧ H' D = some (.lst ys) ∧ ys = (List.replicate n true).map V.bl) ⟨fresh_same hD, upd_same, rfl⟩ (fun n H' ys p => ⟨p.2.1, SqL.of (p.1 _ _ hl)⟩) (fun n x H' ys e p => ?_) (fun H' ys p => ?_)
    · obtain ⟨Sm, hd, rfl⟩ := p
      have hn : n < (ts.map V.str).length := (List.getElem?_eq_some_iff.mp e).1
      rw [List.getElem?_map] at e
      obtain ⟨z, hz, rfl⟩ : ∃ z, ts[n]? = some z ∧ V.str z = x := by
        cases h : ts[n]? with
        | none => rw [h] at e; cases e
        | some z => rw [h] at e; exact ⟨z, rfl, Option.some.inj e⟩
      refine s_name ⟨trivial, i_yes (iteT ?_)⟩
      refine i_call (i_cons (i_var rfl (i_nil ⟨z, rfl, low z (List.mem_of_getElem? hz), fun H2 S2 => ?_⟩)))
      refine NextC.mk (S2 _ _ hd) hn (by rw [List.length_map, List.length_replicate]; rw [List.length_map] at hn; omega) ⟨same_upd (Sm.trans S2) hD, upd_same, ?_⟩
      rw [List.replicate_succ', List.map_append]; rfl
    · obtain ⟨Sm, hd, rfl⟩ := p
      refine i_nil ⟨_, _, rfl, SqL.of hd, ?_⟩
      have e : (List.replicate (ts.map V.str).length true).all id = true := by simp
      rw [e]
      have hl' := Sm _ _ hl
      refine ⟨_, rfl, iteT ?_⟩
      repeat walk_at "vc"
      refine i_lens ?_
      repeat walk_at "vc"
      refine ⟨l, ts, rfl, SqL.of hl', by omega, ?_⟩
      repeat walk_at "vc"
      have e2 : decide (V.int (uniq ts) = V.int ((ts.map V.str).length : Nat)) = decide ts.Nodup := by
        rw [Bool.eq_iff_iff, decide_eq_true_iff, decide_eq_true_iff, ← uniq_all, List.length_map]
        constructor
        · intro h
          injection h with h
          omega
        · intro h
          rw [h]
      rw [e2]
      exact q H' Sm
end
set_option Elab.async false
set_option linter.all false
set_option maxRecDepth 100000
set_option maxHeartbeats 4000000

noncomputable def spRuleOk (d : Nat) : Sp := fun vs H Q _ => ∃ (v : V) (r : Rl) (l : Addr) (ws : List Str) (n : Int), vs = [v, .ref l, .int n] ∧ RAt H v r ∧ r.dep ≤ d ∧ (r.dep : Int) ≤ n ∧ n ≤ 100 ∧ r.ok ws ∧ H l = some (.lst (ws.map V.str)) ∧ ws.length ≤ 100 ∧ ∀ H', Same H H' → Q (.bl true) H'
theorem i_parts {ty : TE} {σ : St} {H : Hp} {Q : VK} (q : ty σ H fun y H1 => ∃ p ∈ partsN, y = .str p.1 ∧ Q (.int p.2) H1) : tParts ty σ H Q := q
theorem inV_str {nm : Str} : ∀ {ns : List Str}, inV (.str nm) (ns.map V.str) = true ↔ nm ∈ ns
  | [] => by simp [inV]
  | n :: ns => by
    have ih := inV_str (nm := nm) (ns := ns)
    unfold inV at ih ⊢
    rw [List.map_cons, List.any_cons, Bool.or_eq_true, ih, List.mem_cons]
    have : eqV (.str n) (.str nm) = (n == nm) := rfl
    rw [this, beq_iff_eq]
    exact ⟨fun h => h.imp Eq.symm id, fun h => h.imp Eq.symm id⟩
theorem flat_strs (ns : List Str) : (ns.map V.str).all flatV = true := by
  rw [List.all_eq_true]
  intro x hx
  obtain ⟨n, _, rfl⟩ := List.mem_map.mp hx
  rfl
theorem six_one (n d : Nat) : HT.sIx (n + 1) d (some 1) = 1 := by
  show HT.sIx (n + 1) d (some ((1 : Nat) : Int)) = 1
  rw [HT.sIx_nat]
  omega
theorem cut_one (x : V) (as : List V) : cutV (x :: as) (some 1) none = as := by
  unfold cutV
  rw [List.length_cons, six_one, HT.sIx_none]
  simp
theorem rl_open {H : Hp} {v : V} {r : Rl} {ws : List Str} (ra : RAt H v r) (rok : r.ok ws) : ∃ (b : Addr) (p : Str × Int) (as : List V), v = .ref b ∧ H b = some (.tup (.str p.1 :: as)) ∧ p ∈ partsN ∧ p.2 = (as.length : Int) + 1 ∧ as.length ≤ 2 ∧ 1 ≤ as.length ∧
    ((p.1 = "wire" ∧ ∃ nm, as = [.str nm] ∧ nm ∈ ws) ∨ (p.1 ≠ "wire" ∧ ∀ x ∈ as, ∃ r', RAt H x r' ∧ r'.dep + 1 ≤ r.dep ∧ r'.ok ws)) := by
  cases ra with
  | @w b n hb => exact ⟨b, ("wire", 2), [.str n], rfl, hb, by simp [partsN], rfl, by simp, by simp, .inl ⟨rfl, n, rfl, rok⟩⟩
  | @no b u r hb h1 =>
    refine ⟨b, ("not", 2), [u], rfl, hb, by simp [partsN], rfl, by simp, by simp, .inr ⟨by decide +kernel, fun x hx => ?_⟩⟩
    obtain rfl := List.mem_singleton.mp hx
    exact ⟨r, h1, by simp [Rl.dep], rok⟩
  | @an b u x r1 r2 hb h1 h2 =>
    refine ⟨b, ("and", 3), [u, x], rfl, hb, by simp [partsN], rfl, by simp, by simp, .inr ⟨by decide +kernel, fun y hy => ?_⟩⟩
    rcases List.mem_cons.mp hy with e | e
    · subst e; exact ⟨r1, h1, by simp only [Rl.dep]; omega, rok.1⟩
    · obtain rfl := List.mem_singleton.mp e
      exact ⟨r2, h2, by simp only [Rl.dep]; omega, rok.2⟩
  | @orr b u x r1 r2 hb h1 h2 =>
    refine ⟨b, ("or", 3), [u, x], rfl, hb, by simp [partsN], rfl, by simp, by simp, .inr ⟨by decide +kernel, fun y hy => ?_⟩⟩
    rcases List.mem_cons.mp hy with e | e
    · subst e; exact ⟨r1, h1, by simp only [Rl.dep]; omega, rok.1⟩
    · obtain rfl := List.mem_singleton.mp e
      exact ⟨r2, h2, by simp only [Rl.dep]; omega, rok.2⟩
section
variable {P : Program} {w : World} {K : PySem.W.Frag} {mg : Str → Option Value} {base : Heap} {TT : Addr}
theorem fnok_false {k : Nat} {f : Addr} {fd : FuncData} {ps : List Str} {sp : Sp} (h : ∀ vs H Q E, sp vs H Q E → False) : FnOk P w K mg base CX0 k f fd ps sp :=
  ⟨fun vs H Q E q => (h vs H Q E q).elim, fun _ _ _ _ _ _ vs Q E _ _ _ _ q => (h _ _ _ _ q).elim⟩
theorem dep_pos (r : Rl) : 1 ≤ r.dep := by cases r <;> simp [Rl.dep]
theorem sc_is_rule : FnScope ["thing", "wires", "depth", "kind"] ["thing", "wires", "depth"] (defScope (top 11)) := ⟨rfl, rfl, rfl, by decide +kernel, rfl, by decide +kernel, by decide +kernel⟩
theorem ok_isrule {f : Addr} {fd : FuncData} (Fu : Fun K "is_rule" "is_rule" (top 11) f fd) (T : Txt K mg TT) (hm : mg "is_rule" = some (.ref f)) (hk : PySem.W.keepIn K (.ref f) = true) (hb : Binds K fd ["thing", "wires", "depth"] []) : ∀ d, FnOk P w K mg base CX0 d f fd ["thing", "wires", "depth"] (spRuleOk d)
  | 0 => fnok_false fun vs H Q E ⟨v, r, l, ws, n, _, _, h, _⟩ => by have := dep_pos r; omega
  | d + 1 => by
    have S := sc_is_rule
    have f_is_rule : Fn P w K mg base "is_rule" ["thing", "wires", "depth"] d (spRuleOk d) := ⟨f, fd, ok_isrule Fu T hm hk hb d, hm, hk, hb⟩
    refine Fu.ok S (fun vs H Q E h => ?_) (fun cdv A outer s H vs Q E hr h => ?_)
    · obtain ⟨v, r, l, ws, n, rfl, _⟩ := h
      rfl
    · obtain ⟨v, r, l, ws, n, rfl, ra, hd, hn, hn2, rok, hl, hw, q⟩ := h
      have hu := hu_of hr
      have dp := dep_pos r
      refine ⟨_, (pss_cons (ps_if (PW.pt (pw_or (pt_cmpR op_lt (pv 2) pe_int (nomark _)) (pw_or (pt_not (pt_val (pe_callB call_isinst (by rfl) T.n_isinstance PyProof.Rows.boot_isinstance (pa_cons (pv 0) (pa_cons (pe_bltn (v := .ty "tuple") (by rfl) T.n_tuple PyProof.Rows.boot_tuple rfl) pa_nil))))) (pw_or1 (pt_cmpR op_eq (pe_callB call_len_seq (by rfl) T.n_len PySem.boot_len (pa_cons (pv 0) pa_nil)) pe_int (nomark _)))))) (pss_one (ps_ret pe_bl)) pss_nil)
      (pss_cons (ps_set (i := 3) S.nd rfl (by first | exact Or.inl rfl | exact Or.inr rfl) (pe_ix ix_tup (pv 0) pe_int (fun _ _ => rfl)))
      (pss_cons (ps_if (PW.pt (pw_or (pt_not (pt_val (pe_callB call_isinst (by rfl) T.n_isinstance PyProof.Rows.boot_isinstance (pa_cons (pv 3) (pa_cons (pe_bltn (v := .ty "str") (by rfl) T.n_str PyProof.Rows.boot_str rfl) pa_nil))))) (pw_or1 (pt_cmpR op_ne (pe_parts T.tab (pe_glob (v := .ref TT) (by rfl) T.pARTS rfl) (pv 3) ⟨rfl, rfl, rfl, rfl⟩) (pe_callB call_len_seq (by rfl) T.n_len PySem.boot_len (pa_cons (pv 0) pa_nil)) (nomark _))))) (pss_one (ps_ret pe_bl)) pss_nil)
      (pss_cons (ps_if (pt_cmpR op_eq (pv 3) pe_str (nomark _)) (pss_one (ps_ret (pe_and (pe_callB call_isinst (by rfl) T.n_isinstance PyProof.Rows.boot_isinstance (pa_cons (pe_ix ix_tup (pv 0) pe_int (fun _ _ => rfl)) (pa_cons (pe_bltn (v := .ty "str") (by rfl) T.n_str PyProof.Rows.boot_str rfl) pa_nil))) (pe_one (pe_cmpR op_in_seq (pe_ix ix_tup (pv 0) pe_int (fun _ _ => rfl)) (pv 1) rfl))))) pss_nil)
      (pss_one (ps_ret (pe_callB (call_all rfl) (by rfl) T.n_all PyProof.Rows.boot_all (pa_cons (pe_lc (tgs := ["part"]) (cap := [("wires", 1), ("depth", 2)]) rfl ⟨rfl, rfl, rfl, rfl, rfl, rfl⟩ (pi_tup (pe_slice sl_tup (pv 0) (po_some pe_int) po_none)) (fun _ _ _ _ => (pg_name (i := 0) (show List.Nodup [("part" : Str), ("wires" : Str), ("depth" : Str)] by decide +kernel) rfl (by first | exact Or.inl rfl | exact Or.inr rfl))) (fun _ _ _ _ => pifs_nil) (fun _ _ _ _ => (pe_fn f_is_rule (hr.mono (by first | decide | omega)) (by rfl) (pa_cons (pv 0) (pa_cons (pv 1) (pa_cons (pe_op op_sub (pv 2) pe_int) pa_nil)))))) pa_nil)))))))), ?_⟩
      try dsimp only [cxOf, Cx.nox, Cx.wish]
      rw [show L2.start ["thing", "wires", "depth", "kind"] [v, V.ref l, V.int n] = [some v, some (.ref l), some (.int n), none] from rfl]
      obtain ⟨b, p, as, rfl, hb, hp, hp2, a2, a1, ways⟩ := rl_open ra rok
      have big : 1000 < sizeLine := by decide
      repeat walk_at "vc"
      refine ifF (decide_eq_false (by omega)) ?_
      repeat walk_at "vc"
      refine ⟨_, _, _, _, rfl, .tup hb, kit_same "tuple", ?_⟩
      refine ⟨_, rfl, iteF ?_⟩
      repeat walk_at "vc"
      refine ⟨b, _, rfl, .inr (SqT.of hb), ?_⟩
      repeat walk_at "vc"
      refine ifF (decide_eq_false fun h => by injection h with h; simp at h; omega) ?_
      repeat walk_at "vc"
      refine i_ixT hb (atI_nat (j := 0) rfl) ?_
      repeat walk_at "vc"
      refine ⟨_, _, _, _, rfl, TyOf.str p.1, kit_same "str", ?_⟩
      refine ⟨_, rfl, iteF ?_⟩
      repeat walk_at "vc"
      refine i_parts ?_
      repeat walk_at "vc"
      refine ⟨p, hp, rfl, ?_⟩
      repeat walk_at "vc"
      refine ⟨b, _, rfl, .inr (SqT.of hb), ?_⟩
      repeat walk_at "vc"
      refine ifF (by
        have e : V.int p.2 = V.int ((V.str p.1 :: as).length : Nat) := by rw [hp2]; simp
        rw [e]; simp) ?_
      repeat walk_at "vc"
      rcases ways with ⟨e, nm, rfl, hin⟩ | ⟨e, subs⟩
      · refine ifT (by rw [e]; decide +kernel) ?_
        repeat walk_at "vc"
        refine ⟨_, _, _, _, rfl, TyOf.str nm, kit_same "str", ?_⟩
        refine ⟨_, rfl, iteT ?_⟩
        repeat walk_at "vc"
        refine ⟨l, _, rfl, .inl (SqL.of hl), rfl, flat_strs ws, ?_⟩
        have z : inV (.str nm) (ws.map V.str) = true := inV_str.mpr hin
        show Q (.bl (inV (.str nm) (ws.map V.str))) H
        rw [z]
        exact q H (Same.refl H)
      · refine ifF (decide_eq_false fun h => by injection h with h; exact e h) ?_
        repeat walk_at "vc"
        refine i_comp (s_tup ?_)
        repeat walk_at "vc"
        refine ⟨b, _, rfl, SqT.of hb, ?_, fun c hc => ?_⟩
        · intro h
          have h1 := h.1
          rw [List.length_cons, six_one] at h1
          cases h1
        rw [cut_one]
        have S1 := fresh_same (o := .tup as) hc
        have hcT : upd H c (.tup as) c = some (.tup as) := upd_same
        generalize upd H c (.tup as) = H1 at S1 hcT
        refine ⟨c, rfl, ⟨_, SqT.of hcT⟩, fun D hD => ?_⟩
        refine comp_tup (xs := as) (fun m H' ys => Same H1 H' ∧ H' D = some (.lst ys) ∧ ys = (List.replicate m true).map V.bl) ⟨fresh_same hD, upd_same, rfl⟩ (fun m H' ys p => ⟨p.2.1, SqT.of (p.1 _ _ hcT)⟩) (fun m x H' ys e p => ?_) (fun H' ys p => ?_)
        · obtain ⟨Sm, hd', rfl⟩ := p
          have hm' : m < as.length := (List.getElem?_eq_some_iff.mp e).1
          obtain ⟨r', h1, h2, h3⟩ := subs x (List.mem_of_getElem? e)
          refine s_name ⟨by refine ⟨?_, ?_, ?_⟩ <;> first | rfl | trivial, i_yes (iteT ?_)⟩
          repeat walk_at "vc"
          refine ⟨x, r', l, ws, n - 1, rfl, h1.mono (Same.tups (S1.trans Sm)), by omega, by omega, by omega, h3, (S1.trans Sm) _ _ hl, hw, fun H2 S2 => ?_⟩
          refine NextC.mk (S2 _ _ hd') hm' (by rw [List.length_map, List.length_replicate]; omega) ⟨same_upd (Sm.trans S2) hD, upd_same, ?_⟩
          rw [List.replicate_succ', List.map_append]; rfl
        · obtain ⟨Sm, hd', rfl⟩ := p
          refine i_nil ⟨_, _, rfl, SqL.of hd', ?_⟩
          have e : (List.replicate as.length true).all id = true := by simp
          rw [e]
          exact q H' (S1.trans Sm)
end
set_option Elab.async false
set_option linter.all false
set_option maxRecDepth 100000
set_option maxHeartbeats 4000000

noncomputable def spIsNet : Sp := fun vs H Q _ => ∃ a li lg ins gvs gs, vs = [.ref a] ∧ NAt H a li lg ins gvs gs ∧ NetOk ins gs ∧ ∀ H', Same H H' → Q (.bl (decide (IsNet ins gs))) H'
section
variable {P : Program} {w : World} {K : PySem.W.Frag} {mg : Str → Option Value} {base : Heap} {TT : Addr}
theorem sc_is_net : FnScope ["thing", "inputs", "gates", "wires"] ["thing"] (defScope (top 14)) := ⟨rfl, rfl, rfl, by decide +kernel, rfl, by decide +kernel, by decide +kernel⟩
theorem ok_isnet {f : Addr} {fd : FuncData} (Fu : Fun K "is_net" "is_net" (top 14) f fd) (T : Txt K mg TT) (f_is_pair : Fn P w K mg base "is_pair" ["thing"] 1 spPair) (f_wires_of : Fn P w K mg base "wires_of" ["net"] 2 spWires)
    (f_are_unlike_names : Fn P w K mg base "are_unlike_names" ["things"] 2 spUnlike) (f_is_rule : Fn P w K mg base "is_rule" ["thing", "wires", "depth"] 10 (spRuleOk 10)) : FnOk P w K mg base CX0 11 f fd ["thing"] spIsNet := by
  have S := sc_is_net
  refine Fu.ok S (fun vs H Q E h => ?_) (fun cdv A outer s H vs Q E hr h => ?_)
  · obtain ⟨a, li, lg, ins, gvs, gs, rfl, _⟩ := h
    rfl
  · obtain ⟨a, li, lg, ins, gvs, gs, rfl, NA, ok, q⟩ := h
    obtain ⟨_, gMR⟩ := T.mRULES
    obtain ⟨_, gMI⟩ := T.mINPUTS
    obtain ⟨_, gMG⟩ := T.mGATES
    obtain ⟨ha, hi, hg, gts⟩ := id NA
    have hu := hu_of hr
    have big : 1000 < sizeLine := by decide
    have gl := paired_len gts
    have i4 := ok.i4
    have g7 := ok.g7
    refine ⟨_, (pss_cons (ps_if (PW.pt (pw_or (pt_not (pt_val (pe_fn f_is_pair (hr.mono (by first | decide | omega)) (by rfl) (pa_cons (pv 0) pa_nil)))) (pw_or (pt_not (pt_val (pe_callB call_isinst (by rfl) T.n_isinstance PyProof.Rows.boot_isinstance (pa_cons (pe_ix ix_tup (pv 0) pe_int (fun _ _ => rfl)) (pa_cons (pe_bltn (v := .ty "list") (by rfl) T.n_list PyProof.Rows.boot_list rfl) pa_nil))))) (pw_or1 (pt_not (pt_val (pe_callB call_isinst (by rfl) T.n_isinstance PyProof.Rows.boot_isinstance (pa_cons (pe_ix ix_tup (pv 0) pe_int (fun _ _ => rfl)) (pa_cons (pe_bltn (v := .ty "list") (by rfl) T.n_list PyProof.Rows.boot_list rfl) pa_nil))))))))) (pss_one (ps_ret pe_bl)) pss_nil)
      (pss_cons (ps_set (i := 1) S.nd rfl (by first | exact Or.inl rfl | exact Or.inr rfl) (pe_ix ix_tup (pv 0) pe_int (fun _ _ => rfl)))
      (pss_cons (ps_set (i := 2) S.nd rfl (by first | exact Or.inl rfl | exact Or.inr rfl) (pe_ix ix_tup (pv 0) pe_int (fun _ _ => rfl)))
      (pss_cons (ps_if (PW.pt (pw_or (pt_cmpR op_gt (pe_callB call_len_seq (by rfl) T.n_len PySem.boot_len (pa_cons (pv 1) pa_nil)) (pe_glob (v := .int 4) (by rfl) gMI ⟨_, rfl⟩) (nomark _)) (pw_or1 (pt_not (pt_chain op_le op_le pe_int (pe_callB call_len_seq (by rfl) T.n_len PySem.boot_len (pa_cons (pv 2) pa_nil)) (pe_glob (v := .int 7) (by rfl) gMG ⟨_, rfl⟩)))))) (pss_one (ps_ret pe_bl)) pss_nil)
      (pss_cons (ps_if (pt_not (pt_val (pe_callB (call_all rfl) (by rfl) T.n_all PyProof.Rows.boot_all (pa_cons (pe_lc (tgs := ["gate"]) (cap := []) rfl ⟨rfl, rfl, rfl, rfl, rfl, rfl⟩ (pi_list (pv 2)) (fun _ _ _ _ => (pg_name (i := 0) (show List.Nodup [("gate" : Str)] by decide +kernel) rfl (by first | exact Or.inl rfl | exact Or.inr rfl))) (fun _ _ _ _ => pifs_nil) (fun _ _ _ _ => (pe_fn f_is_pair (hr.mono (by first | decide | omega)) (by rfl) (pa_cons (pv 0) pa_nil)))) pa_nil)))) (pss_one (ps_ret pe_bl)) pss_nil)
      (pss_cons (ps_set (i := 3) S.nd rfl (by first | exact Or.inl rfl | exact Or.inr rfl) (pe_fn f_wires_of (hr.mono (by first | decide | omega)) (by rfl) (pa_cons (pv 0) pa_nil)))
      (pss_cons (ps_if (pt_not (pt_val (pe_fn f_are_unlike_names (hr.mono (by first | decide | omega)) (by rfl) (pa_cons (pv 3) pa_nil)))) (pss_one (ps_ret pe_bl)) pss_nil)
      (pss_one (ps_ret (pe_callB (call_all rfl) (by rfl) T.n_all PyProof.Rows.boot_all (pa_cons (pe_lc (tgs := ["gate"]) (cap := [("wires", 3)]) rfl ⟨rfl, rfl, rfl, rfl, rfl, rfl⟩ (pi_list (pv 2)) (fun _ _ _ _ => (pg_name (i := 0) (show List.Nodup [("gate" : Str), ("wires" : Str)] by decide +kernel) rfl (by first | exact Or.inl rfl | exact Or.inr rfl))) (fun _ _ _ _ => pifs_nil) (fun _ _ _ _ => (pe_fn f_is_rule (hr.mono (by first | decide | omega)) (by rfl) (pa_cons (pe_ix (ix_tupK (K := K) rfl) (pv 0) pe_int (fun _ _ => rfl)) (pa_cons (pv 1) (pa_cons (pe_glob (v := .int 10) (by rfl) gMR ⟨_, rfl⟩) pa_nil)))))) pa_nil))))))))))), ?_⟩
    try dsimp only [cxOf, Cx.nox, Cx.wish]
    rw [show L2.start ["thing", "inputs", "gates", "wires"] [V.ref a] = [some (.ref a), none, none, none] from rfl]
    repeat walk_at "vc"
    refine ⟨a, _, rfl, ha, by simp, ?_⟩
    refine ⟨_, rfl, ifF rfl ?_⟩
    repeat walk_at "vc"
    refine ⟨_, _, _, _, rfl, .lst hi, kit_same "list", ?_⟩
    refine ⟨_, rfl, iteF ?_⟩
    repeat walk_at "vc"
    refine ⟨_, _, _, _, rfl, .lst hg, kit_same "list", ?_⟩
    refine ⟨_, rfl, iteF ?_⟩
    repeat walk_at "vc"
    have no : ∀ {H'}, Same H H' → ¬ IsNet ins gs → Q (.bl false) H' := fun S' c => by
      have z := q _ S'
      rw [decide_eq_false c] at z
      exact z
    by_cases c1 : ins.length ≤ 4
    · refine ifF (decide_eq_false (by rw [List.length_map]; omega)) ?_
      repeat walk_at "vc"
      refine i_chain ?_
      repeat walk_at "vc"
      by_cases c2 : 1 ≤ gs.length
      · refine ifT (decide_eq_true (by omega)) ?_
        repeat walk_at "vc"
        by_cases c3 : gs.length ≤ 7
        · refine ifF (by rw [decide_eq_true (show (gvs.length : Int) ≤ 7 by omega)]; rfl) ?_
          repeat walk_at "vc"
          refine i_comp (s_list (i_var rfl ⟨lg, rfl, ⟨_, SqL.of hg⟩, fun D hD => ?_⟩))
          refine comp_list (xs := gvs) (fun m H' ys => Same H H' ∧ H' D = some (.lst ys) ∧ ys = (List.replicate m true).map V.bl) ⟨fresh_same hD, upd_same, rfl⟩ (fun m H' ys p => ⟨p.2.1, SqL.of (p.1 _ _ hg)⟩) (fun m x H' ys e p => ?_) (fun H' ys p => ?_)
          · obtain ⟨Sm, hd, rfl⟩ := p
            have hn : m < gvs.length := (List.getElem?_eq_some_iff.mp e).1
            obtain ⟨g, e', b, rv, rfl, hb, hrr⟩ := paired_at gts m x e
            refine s_name ⟨trivial, i_yes (iteT ?_)⟩
            refine i_call (i_cons (i_var rfl (i_nil ⟨b, _, rfl, Sm _ _ hb, by simp, ?_⟩)))
            exact NextC.mk hd hn (by rw [List.length_map, List.length_replicate]; omega) ⟨same_upd Sm hD, upd_same, by rw [List.replicate_succ', List.map_append]; rfl⟩
          · obtain ⟨Sm, hd, rfl⟩ := p
            refine i_nil ⟨_, _, rfl, SqL.of hd, ?_⟩
            have e : (List.replicate gvs.length true).all id = true := by simp
            rw [e]
            refine ⟨_, rfl, iteF ?_⟩
            repeat walk_at "vc"
            refine ⟨a, li, lg, ins, gvs, gs, rfl, NA.same Sm, ok, fun lw H2 S2 nw hw => ?_⟩
            repeat walk_at "vc"
            have wl : (wiresN ins gs).length ≤ 100 := by unfold wiresN; rw [List.length_append, List.length_map]; omega
            refine ⟨lw, wiresN ins gs, rfl, hw, wl, ok.low, fun H3 S3 => ?_⟩
            refine ⟨_, rfl, ?_⟩
            have S03 := (Sm.trans S2).trans S3
            by_cases c4 : (wiresN ins gs).Nodup
            · refine ifF (by rw [decide_eq_true c4]; rfl) ?_
              repeat walk_at "vc"
              have hg3 := S03 _ _ hg
              have hw3 := S3 _ _ hw
              refine i_comp (s_list (i_var rfl ⟨lg, rfl, ⟨_, SqL.of hg3⟩, fun D2 hD2 => ?_⟩))
              refine comp_list (xs := gvs) (fun m H' ys => Same H3 H' ∧ H' D2 = some (.lst ys) ∧ ys = (List.replicate m true).map V.bl) ⟨fresh_same hD2, upd_same, rfl⟩ (fun m H' ys p => ⟨p.2.1, SqL.of (p.1 _ _ hg3)⟩) (fun m x H' ys e p => ?_) (fun H' ys p => ?_)
              · obtain ⟨Sm, hd, rfl⟩ := p
                have hn : m < gvs.length := (List.getElem?_eq_some_iff.mp e).1
                obtain ⟨g, e', b, rv, rfl, hb, hrr⟩ := paired_at gts m x e
                obtain ⟨r1, r2⟩ := ok.rules g (List.mem_of_getElem? e')
                have S0m := S03.trans Sm
                have hb' := S0m _ _ hb
                refine s_name ⟨by refine ⟨?_, ?_⟩ <;> first | rfl | trivial, i_yes (iteT ?_)⟩
                repeat walk_at "vc"
                refine ⟨rv, g.2, lw, wiresN ins gs, 10, rfl, hrr.mono (Same.tups S0m), r2, by omega, by omega, r1, Sm _ _ hw3, wl, fun H2 S2 => ?_⟩
                exact NextC.mk (S2 _ _ hd) hn (by rw [List.length_map, List.length_replicate]; omega) ⟨same_upd (Sm.trans S2) hD2, upd_same, by rw [List.replicate_succ', List.map_append]; rfl⟩
              · obtain ⟨Sm, hd, rfl⟩ := p
                refine i_nil ⟨_, _, rfl, SqL.of hd, ?_⟩
                have e : (List.replicate gvs.length true).all id = true := by simp
                rw [e]
                have z := q _ (S03.trans Sm)
                rw [decide_eq_true (show IsNet ins gs from ⟨c1, c2, c3, c4⟩)] at z
                exact z
            · refine ifT (by rw [decide_eq_false c4]; rfl) ?_
              repeat walk_at "vc"
              exact no S03 fun h => c4 h.2.2.2
        · refine ifT (by rw [decide_eq_false (show ¬ (gvs.length : Int) ≤ 7 by omega)]; rfl) ?_
          repeat walk_at "vc"
          exact no (Same.refl H) fun h => c3 h.2.2.1
      · refine ifF (decide_eq_false (by omega)) ?_
        repeat walk_at "vc"
        exact no (Same.refl H) fun h => c2 h.2.1
    · refine ifT (decide_eq_true (by rw [List.length_map]; omega)) ?_
      repeat walk_at "vc"
      exact no (Same.refl H) fun h => c1 h.1
end
set_option Elab.async false
set_option linter.all false
set_option maxRecDepth 100000
set_option maxHeartbeats 4000000
noncomputable def mk (l : List Nat) : Str := ⟨l.toArray⟩
theorem mk_ext {z : Str} {l : List Nat} (h : z.cps.toList = l) : z = mk l := by subst h; show z = ⟨z.cps.toList.toArray⟩; simp
theorem mk_list (l : List Nat) : (mk l).cps.toList = l := rfl
theorem mk_len (l : List Nat) : (mk l).length = l.length := by show l.toArray.size = _; simp
theorem app_list (a b : Str) : (a ++ b).cps.toList = a.cps.toList ++ b.cps.toList := by
  show (a.cps ++ b.cps).toList = _
  simp
noncomputable def rT : Rl → List Nat
  | .w n => n.cps.toList
  | .no r => 33 :: rT r
  | .an a b => 40 :: (rT a ++ ([32, 38, 32] ++ (rT b ++ [41])))
  | .orr a b => 40 :: (rT a ++ ([32, 124, 32] ++ (rT b ++ [41])))
noncomputable def low : Rl → Prop
  | .w n => Low n
  | .no r => low r
  | .an a b => low a ∧ low b
  | .orr a b => low a ∧ low b
theorem low_of {ws : List Str} (h : ∀ n ∈ ws, Low n) : ∀ {r : Rl}, r.ok ws → low r
  | .w n, k => h n k
  | .no r, k => low_of (r := r) h k
  | .an a b, k => ⟨low_of (r := a) h k.1, low_of (r := b) h k.2⟩
  | .orr a b, k => ⟨low_of (r := a) h k.1, low_of (r := b) h k.2⟩
theorem low_len {z : Str} (h : Low z) : z.cps.toList.length ≤ 8 ∧ 1 ≤ z.cps.toList.length := by
  have e : z.cps.toList.length = z.length := Array.length_toList ..
  rw [e]
  exact ⟨h.l8, h.l1⟩
theorem pow_max (a b : Nat) : 2 ^ a ≤ 2 ^ max a b ∧ 2 ^ b ≤ 2 ^ max a b := ⟨Nat.pow_le_pow_right (by decide) (Nat.le_max_left ..), Nat.pow_le_pow_right (by decide) (Nat.le_max_right ..)⟩
theorem rT_len : ∀ (r : Rl), low r → (rT r).length + 5 ≤ 13 * 2 ^ r.dep
  | .w n, h => by
    have := low_len h
    show n.cps.toList.length + 5 ≤ 13 * 2 ^ 1
    omega
  | .no r, h => by
    have := rT_len r h
    show (rT r).length + 1 + 5 ≤ 13 * 2 ^ (r.dep + 1)
    have e : 2 ^ (r.dep + 1) = 2 ^ r.dep * 2 := Nat.pow_succ ..
    have := Nat.one_le_two_pow (n := r.dep)
    omega
  | .an a b, h => by
    have h1 := rT_len a h.1
    have h2 := rT_len b h.2
    have e : 2 ^ (max a.dep b.dep + 1) = 2 ^ max a.dep b.dep * 2 := Nat.pow_succ ..
    have m := pow_max a.dep b.dep
    show (40 :: (rT a ++ ([32, 38, 32] ++ (rT b ++ [41])))).length + 5 ≤ 13 * 2 ^ (max a.dep b.dep + 1)
    simp only [List.length_cons, List.length_append, List.length_nil]
    omega
  | .orr a b, h => by
    have h1 := rT_len a h.1
    have h2 := rT_len b h.2
    have e : 2 ^ (max a.dep b.dep + 1) = 2 ^ max a.dep b.dep * 2 := Nat.pow_succ ..
    have m := pow_max a.dep b.dep
    show (40 :: (rT a ++ ([32, 124, 32] ++ (rT b ++ [41])))).length + 5 ≤ 13 * 2 ^ (max a.dep b.dep + 1)
    simp only [List.length_cons, List.length_append, List.length_nil]
    omega
theorem rT_small {r : Rl} (h : low r) (hd : r.dep ≤ 10) : (rT r).length ≤ 13312 := by
  have h1 := rT_len r h
  have h2 : 2 ^ r.dep ≤ 2 ^ 10 := Nat.pow_le_pow_right (by decide) hd
  omega
noncomputable def OutR (c : Nat) : Prop := 122 < c ∧ c ≠ 124 ∨ 41 < c ∧ c < 97
theorem rT_out {c : Nat} (hc : OutR c) : ∀ (r : Rl), low r → c ∉ rT r
  | .w n, h => fun z => by
    have := h.low c z
    rcases hc with hc | hc <;> omega
  | .no r, h => fun z => by
    rcases List.mem_cons.mp z with e | z
    · rcases hc with hc | hc <;> omega
    · exact rT_out hc r h z
  | .an a b, h => fun z => by
    have h1 := rT_out hc a h.1
    have h2 := rT_out hc b h.2
    simp only [rT, List.mem_cons, List.mem_append, List.not_mem_nil, or_false] at z
    rcases z with e | z | (e | e | e) | z | e
    · rcases hc with hc | hc <;> omega
    · exact h1 z
    · rcases hc with hc | hc <;> omega
    · rcases hc with hc | hc <;> omega
    · rcases hc with hc | hc <;> omega
    · exact h2 z
    · rcases hc with hc | hc <;> omega
  | .orr a b, h => fun z => by
    have h1 := rT_out hc a h.1
    have h2 := rT_out hc b h.2
    simp only [rT, List.mem_cons, List.mem_append, List.not_mem_nil, or_false] at z
    rcases z with e | z | (e | e | e) | z | e
    · rcases hc with hc | hc <;> omega
    · exact h1 z
    · rcases hc with hc | hc <;> omega
    · rcases hc with hc | hc <;> omega
    · rcases hc with hc | hc <;> omega
    · exact h2 z
    · rcases hc with hc | hc <;> omega
theorem low_out {c : Nat} {z : Str} (h : Low z) (hc : c < 97 ∨ 122 < c) : c ∉ z.cps.toList := fun q => by
  have := h.low c q
  omega
noncomputable def gT (g : Str × Rl) : List Nat := g.1.cps.toList ++ 61 :: rT g.2
noncomputable def iT : List Str → List Nat
  | [] => [45]
  | n :: r => JJ [32] n.cps.toList (r.map (·.cps.toList))
noncomputable def nT (ins : List Str) (gs : List (Str × Rl)) : List Nat := JJ [59, 32] (iT ins) (gs.map gT)
theorem JJ_mem {Y : List Nat} {c : Nat} : ∀ (ps : List (List Nat)) (p : List Nat), c ∈ JJ Y p ps → c ∈ Y ∨ ∃ q ∈ p :: ps, c ∈ q
  | [], p, h => .inr ⟨p, by simp, h⟩
  | q :: r, p, h => by
    have h : c ∈ p ++ (Y ++ JJ Y q r) := h
    rcases List.mem_append.mp h with h | h
    · exact .inr ⟨p, by simp, h⟩
    · rcases List.mem_append.mp h with h | h
      · exact .inl h
      · rcases JJ_mem r q h with z | ⟨s, hs, z⟩
        · exact .inl z
        · exact .inr ⟨s, List.mem_cons_of_mem _ hs, z⟩
theorem JJ_len {Y : List Nat} {m : Nat} : ∀ (ps : List (List Nat)) (p : List Nat), (∀ q ∈ p :: ps, q.length ≤ m) → (JJ Y p ps).length ≤ m + ps.length * (Y.length + m)
  | [], p, h => by
    have := h p (by simp)
    show p.length ≤ m + 0 * _
    omega
  | q :: r, p, h => by
    have h1 := h p (by simp)
    have h2 := JJ_len (Y := Y) (m := m) r q fun z hz => h z (List.mem_cons_of_mem _ hz)
    show (p ++ (Y ++ JJ Y q r)).length ≤ m + (r.length + 1) * (Y.length + m)
    rw [List.length_append, List.length_append, Nat.add_mul]
    omega
theorem iT_out {c : Nat} {ins : List Str} (h : ∀ n ∈ ins, Low n) (hc : c < 97 ∨ 122 < c) (h1 : c ≠ 45) (h2 : c ≠ 32) : c ∉ iT ins := by
  cases ins with
  | nil => intro z; exact h1 (List.mem_singleton.mp z)
  | cons n r =>
    intro z
    rcases JJ_mem _ _ z with z | ⟨q, hq, z⟩
    · exact h2 (List.mem_singleton.mp z)
    · rcases List.mem_cons.mp hq with e | hq
      · subst e; exact low_out (h n (by simp)) hc z
      · obtain ⟨s, hs, rfl⟩ := List.mem_map.mp hq
        exact low_out (h s (List.mem_cons_of_mem _ hs)) hc z
theorem iT_len {ins : List Str} (h : ∀ n ∈ ins, Low n) (l : ins.length ≤ 20) : (iT ins).length ≤ 200 := by
  cases ins with
  | nil => show 1 ≤ 200; omega
  | cons n r =>
    have z := JJ_len (Y := [32]) (m := 8) (r.map (·.cps.toList)) n.cps.toList fun q hq => by
      rcases List.mem_cons.mp hq with e | hq
      · subst e; exact (low_len (h n (by simp))).1
      · obtain ⟨s, hs, rfl⟩ := List.mem_map.mp hq
        exact (low_len (h s (List.mem_cons_of_mem _ hs))).1
    rw [List.length_map] at z
    rw [List.length_cons] at l
    show (JJ [32] n.cps.toList (r.map (·.cps.toList))).length ≤ 200
    have e : ([32] : List Nat).length = 1 := rfl
    rw [e] at z
    omega
theorem gT_len {g : Str × Rl} (h : Low g.1) (h2 : low g.2) (hd : g.2.dep ≤ 10) : (gT g).length ≤ 13400 := by
  have := (low_len h).1
  have := rT_small h2 hd
  unfold gT
  rw [List.length_append, List.length_cons]
  omega
theorem NetOk.low1 {ins : List Str} {gs : List (Str × Rl)} (ok : NetOk ins gs) : (∀ n ∈ ins, Low n) ∧ ∀ g ∈ gs, Low g.1 ∧ K2.low g.2 ∧ g.2.dep ≤ 10 :=
  ⟨fun n hn => ok.low n (List.mem_append_left _ hn), fun g hg => ⟨ok.low g.1 (List.mem_append_right _ (List.mem_map_of_mem hg)), low_of ok.low (ok.rules g hg).1, (ok.rules g hg).2⟩⟩
theorem nT_len {ins : List Str} {gs : List (Str × Rl)} (ok : NetOk ins gs) : (nT ins gs).length ≤ 300000 := by
  have o := ok.low1
  have z := JJ_len (Y := [59, 32]) (m := 13400) (gs.map gT) (iT ins) fun q hq => by
    rcases List.mem_cons.mp hq with e | hq
    · subst e; exact Nat.le_trans (iT_len o.1 ok.i4) (by decide)
    · obtain ⟨s, hs, rfl⟩ := List.mem_map.mp hq
      obtain ⟨a, b, c⟩ := o.2 s hs
      exact gT_len a b c
  rw [List.length_map] at z
  have e : ([59, 32] : List Nat).length = 2 := rfl
  rw [e] at z
  have := ok.g7
  have h2 : gs.length * (2 + 13400) ≤ 20 * (2 + 13400) := Nat.mul_le_mul_right _ this
  unfold nT
  omega
theorem nT_split {ins : List Str} {gs : List (Str × Rl)} (ok : NetOk ins gs) : PySem.Txt.split (mk (nT ins gs)) "; " = mk (iT ins) :: gs.map fun g => mk (gT g) := by
  have o := ok.low1
  have h := split_JJ (x := mk (nT ins gs)) (y := "; ") (c := 59) (Y' := [32]) (p := iT ins) (ps := gs.map gT) (by decide +kernel) (by decide +kernel) rfl fun q hq => by
    rcases List.mem_cons.mp hq with e | hq
    · subst e; exact iT_out o.1 (.inl (by decide)) (by decide) (by decide)
    · obtain ⟨s, hs, rfl⟩ := List.mem_map.mp hq
      obtain ⟨a, b, c⟩ := o.2 s hs
      intro z
      unfold gT at z
      rcases List.mem_append.mp z with z | z
      · exact low_out a (.inl (by decide)) z
      · rcases List.mem_cons.mp z with z | z
        · cases z
        · exact rT_out (.inr (by decide)) _ b z
  rw [h, List.map_cons, List.map_map]
  rfl
theorem iT_split {n : Str} {r : List Str} (h : ∀ z ∈ n :: r, Low z) : PySem.Txt.split (mk (iT (n :: r))) " " = n :: r := by
  have q := split_JJ (x := mk (iT (n :: r))) (y := " ") (c := 32) (Y' := []) (p := n.cps.toList) (ps := r.map (·.cps.toList)) (by decide +kernel) (by decide +kernel) rfl fun q hq => by
    rcases List.mem_cons.mp hq with e | hq
    · subst e; exact low_out (h n (by simp)) (.inl (by decide))
    · obtain ⟨s, hs, rfl⟩ := List.mem_map.mp hq
      exact low_out (h s (List.mem_cons_of_mem _ hs)) (.inl (by decide))
  rw [q, List.map_cons, List.map_map]
  have : ((fun q : List Nat => (⟨q.toArray⟩ : Str)) ∘ fun z : Str => z.cps.toList) = id := by funext z; simp
  rw [this, List.map_id]
set_option Elab.async false
set_option linter.all false
set_option maxRecDepth 100000
set_option maxHeartbeats 4000000

noncomputable def spShowR (d : Nat) : Sp := fun vs H Q _ => ∃ (v : V) (r : Rl), vs = [v] ∧ RAt H v r ∧ r.dep ≤ d ∧ r.dep ≤ 10 ∧ low r ∧ ∀ H', Same H H' → Q (.str (mk (rT r))) H'
noncomputable def spShowI : Sp := fun vs H Q _ => ∃ (l : Addr) (ns : List Str), vs = [.ref l] ∧ H l = some (.lst (ns.map V.str)) ∧ ns.length ≤ 20 ∧ (∀ n ∈ ns, Low n) ∧ Q (.str (mk (iT ns))) H
noncomputable def spShowN : Sp := fun vs H Q _ => ∃ a li lg ins gvs gs, vs = [.ref a] ∧ NAt H a li lg ins gvs gs ∧ NetOk ins gs ∧ ∀ H', Same H H' → Q (.str (mk (nT ins gs))) H'
theorem len_app (a b : Str) : (a ++ b).length = a.length + b.length := by
  show (a.cps ++ b.cps).size = _
  rw [Array.size_append]
  rfl
theorem txt_not (r : Rl) : ("!" : Str) ++ mk (rT r) = mk (rT (.no r)) := mk_ext (by rw [app_list]; rfl)
theorem txt_an (a b : Rl) : ("(" : Str) ++ mk (rT a) ++ (" & " : Str) ++ mk (rT b) ++ (")" : Str) = mk (rT (.an a b)) := mk_ext (by
  rw [app_list, app_list, app_list, app_list]
  show [40] ++ rT a ++ [32, 38, 32] ++ rT b ++ [41] = _
  simp [rT])
theorem txt_or (a b : Rl) : ("(" : Str) ++ mk (rT a) ++ (" | " : Str) ++ mk (rT b) ++ (")" : Str) = mk (rT (.orr a b)) := mk_ext (by
  rw [app_list, app_list, app_list, app_list]
  show [40] ++ rT a ++ [32, 124, 32] ++ rT b ++ [41] = _
  simp [rT])
section
variable {P : Program} {w : World} {K : PySem.W.Frag} {mg : Str → Option Value} {base : Heap} {TT : Addr}
theorem sc_show_rule : FnScope ["rule", "kind"] ["rule"] (defScope (top 20)) := ⟨rfl, rfl, rfl, by decide +kernel, rfl, by decide +kernel, by decide +kernel⟩
theorem ok_showr {f : Addr} {fd : FuncData} (Fu : Fun K "show_rule" "show_rule" (top 20) f fd) (T : Txt K mg TT) (hm : mg "show_rule" = some (.ref f)) (hk : PySem.W.keepIn K (.ref f) = true) (hb : Binds K fd ["rule"] []) : ∀ d, FnOk P w K mg base CX0 d f fd ["rule"] (spShowR d)
  | 0 => fnok_false fun vs H Q E ⟨v, r, _, _, h, _⟩ => by have := dep_pos r; omega
  | d + 1 => by
    have S := sc_show_rule
    have f_show_rule : Fn P w K mg base "show_rule" ["rule"] d (spShowR d) := ⟨f, fd, ok_showr Fu T hm hk hb d, hm, hk, hb⟩
    refine Fu.ok S (fun vs H Q E h => ?_) (fun cdv A outer s H vs Q E hr h => ?_)
    · obtain ⟨v, r, rfl, _⟩ := h
      rfl
    · obtain ⟨v, r, rfl, ra, hd, h10, lw, q⟩ := h
      obtain ⟨TB, tB1, tB2⟩ := T.bet
      have big : 1000000 < sizeLine := by decide
      refine ⟨_, (pss_cons (ps_set (i := 1) S.nd rfl (by first | exact Or.inl rfl | exact Or.inr rfl) (pe_ix ix_tup (pv 0) pe_int (fun _ _ => rfl)))
      (pss_cons (ps_if (pt_cmpR op_eq (pv 1) pe_str (nomark _)) (pss_one (ps_ret (pe_ix ix_tup (pv 0) pe_int (fun _ _ => rfl)))) pss_nil)
      (pss_cons (ps_if (pt_cmpR op_eq (pv 1) pe_str (nomark _)) (pss_one (ps_ret (pe_op op_add_str pe_str (pe_fn f_show_rule (hr.mono (by first | decide | omega)) (by rfl) (pa_cons (pe_ix ix_tup (pv 0) pe_int (fun _ _ => rfl)) pa_nil))))) pss_nil)
      (pss_one (ps_ret (pe_op op_add_str (pe_op op_add_str (pe_op op_add_str (pe_op op_add_str pe_str (pe_fn f_show_rule (hr.mono (by first | decide | omega)) (by rfl) (pa_cons (pe_ix ix_tup (pv 0) pe_int (fun _ _ => rfl)) pa_nil))) (pe_ix (ix_bet tB2) (pe_glob (v := .ref TB) (by rfl) tB1 rfl) (pv 1) (fun _ _ => rfl))) (pe_fn f_show_rule (hr.mono (by first | decide | omega)) (by rfl) (pa_cons (pe_ix ix_tup (pv 0) pe_int (fun _ _ => rfl)) pa_nil))) pe_str)))))), ?_⟩
      try dsimp only [cxOf, Cx.nox, Cx.wish]
      rw [show L2.start ["rule", "kind"] [v] = [some v, none] from rfl]
      cases ra with
      | @w b n hb =>
        repeat walk_at "vc"
        refine ifT (by decide +kernel) ?_
        repeat walk_at "vc"
        exact q H (Same.refl H)
      | @no b u r1 hb h1 =>
        repeat walk_at "vc"
        refine ifF (by decide +kernel) ?_
        repeat walk_at "vc"
        refine ifT (by decide +kernel) ?_
        repeat walk_at "vc"
        refine ⟨u, r1, rfl, h1, by simp only [Rl.dep] at hd; omega, by simp only [Rl.dep] at h10; omega, lw, fun H1 S1 => ?_⟩
        have l1 := rT_small (r := r1) lw (by simp only [Rl.dep] at h10; omega)
        refine ⟨_, _, rfl, rfl, by rw [mk_len]; show 1 + _ ≤ _; omega, ?_⟩
        rw [txt_not]
        exact q H1 S1
      | @an b u x r1 r2 hb h1 h2 =>
        have l1 := rT_small (r := r1) lw.1 (by simp only [Rl.dep] at h10; omega)
        have l2 := rT_small (r := r2) lw.2 (by simp only [Rl.dep] at h10; omega)
        repeat walk_at "vc"
        refine ifF (by decide +kernel) ?_
        repeat walk_at "vc"
        refine ifF (by decide +kernel) ?_
        repeat walk_at "vc"
        refine ⟨u, r1, rfl, h1, by simp only [Rl.dep] at hd; omega, by simp only [Rl.dep] at h10; omega, lw.1, fun H1 S1 => ?_⟩
        refine ⟨_, _, rfl, rfl, by rw [mk_len]; show 1 + _ ≤ _; omega, ?_⟩
        have hb1 := S1 _ _ hb
        repeat walk_at "vc"
        refine ⟨rfl, .inl ⟨rfl, ?_⟩⟩
        refine ⟨_, _, rfl, rfl, by rw [len_app, mk_len]; show 1 + _ + 3 ≤ _; omega, ?_⟩
        repeat walk_at "vc"
        refine ⟨x, r2, rfl, h2.mono (Same.tups S1), by simp only [Rl.dep] at hd; omega, by simp only [Rl.dep] at h10; omega, lw.2, fun H2 S2 => ?_⟩
        refine ⟨_, _, rfl, rfl, by rw [len_app, len_app, mk_len, mk_len]; show 1 + _ + 3 + _ ≤ _; omega, ?_⟩
        repeat walk_at "vc"
        refine ⟨_, _, rfl, rfl, by rw [len_app, len_app, len_app, mk_len, mk_len]; show 1 + _ + 3 + _ + 1 ≤ _; omega, ?_⟩
        rw [txt_an]
        exact q H2 (S1.trans S2)
      | @orr b u x r1 r2 hb h1 h2 =>
        have l1 := rT_small (r := r1) lw.1 (by simp only [Rl.dep] at h10; omega)
        have l2 := rT_small (r := r2) lw.2 (by simp only [Rl.dep] at h10; omega)
        repeat walk_at "vc"
        refine ifF (by decide +kernel) ?_
        repeat walk_at "vc"
        refine ifF (by decide +kernel) ?_
        repeat walk_at "vc"
        refine ⟨u, r1, rfl, h1, by simp only [Rl.dep] at hd; omega, by simp only [Rl.dep] at h10; omega, lw.1, fun H1 S1 => ?_⟩
        refine ⟨_, _, rfl, rfl, by rw [mk_len]; show 1 + _ ≤ _; omega, ?_⟩
        have hb1 := S1 _ _ hb
        repeat walk_at "vc"
        refine ⟨rfl, .inr ⟨rfl, ?_⟩⟩
        refine ⟨_, _, rfl, rfl, by rw [len_app, mk_len]; show 1 + _ + 3 ≤ _; omega, ?_⟩
        repeat walk_at "vc"
        refine ⟨x, r2, rfl, h2.mono (Same.tups S1), by simp only [Rl.dep] at hd; omega, by simp only [Rl.dep] at h10; omega, lw.2, fun H2 S2 => ?_⟩
        refine ⟨_, _, rfl, rfl, by rw [len_app, len_app, mk_len, mk_len]; show 1 + _ + 3 + _ ≤ _; omega, ?_⟩
        repeat walk_at "vc"
        refine ⟨_, _, rfl, rfl, by rw [len_app, len_app, len_app, mk_len, mk_len]; show 1 + _ + 3 + _ + 1 ≤ _; omega, ?_⟩
        rw [txt_or]
        exact q H2 (S1.trans S2)
theorem sc_show_inputs : FnScope ["inputs"] ["inputs"] (defScope (top 21)) := ⟨rfl, rfl, rfl, by decide +kernel, rfl, by decide +kernel, by decide +kernel⟩
theorem ok_showi {f : Addr} {fd : FuncData} (Fu : Fun K "show_inputs" "show_inputs" (top 21) f fd) (T : Txt K mg TT) : FnOk P w K mg base CX0 1 f fd ["inputs"] spShowI := by
  have S := sc_show_inputs
  refine Fu.ok S (fun vs H Q E h => ?_) (fun cdv A outer s H vs Q E hr h => ?_)
  · obtain ⟨l, ns, rfl, _⟩ := h
    rfl
  · obtain ⟨l, ns, rfl, hl, n20, lw, q⟩ := h
    refine ⟨_, (pss_one (ps_ret (pe_ifExp (pt_cmpR op_gt (pe_callB call_len_seq (by rfl) T.n_len PySem.boot_len (pa_cons (pv 0) pa_nil)) pe_int (nomark _)) (pe_bm PySem.F.plainAttrs_str PySem.F.slot_str_join PySem.F.type_str_join mt_join pe_str (pa_cons (pv 0) pa_nil)) pe_str))), ?_⟩
    try dsimp only [cxOf, Cx.nox, Cx.wish]
    rw [show L2.start ["inputs"] [V.ref l] = [some (.ref l)] from rfl]
    repeat walk_at "vc"
    rw [List.length_map]
    cases ns with
    | nil =>
      refine ifF (by decide) ?_
      repeat walk_at "vc"
      exact q
    | cons n r =>
      refine ifT (decide_eq_true (by rw [List.length_cons]; omega)) ?_
      repeat walk_at "vc"
      refine ⟨i_tyS, ?_⟩
      repeat walk_at "vc"
      refine i_join hl ?_ ?_
      · have z : ∀ (ms : List Str), (∀ n ∈ ms, Low n) → (ms.map (·.length)).sum ≤ 8 * ms.length := fun ms => by
          induction ms with
          | nil => intro _; simp
          | cons m s ih =>
            intro h
            have h1 := (h m (by simp)).l8
            have h2 := ih fun n hn => h n (List.mem_cons_of_mem _ hn)
            rw [List.map_cons, List.sum_cons, List.length_cons]
            omega
        have z1 := z (n :: r) lw
        have e : (" " : Str).length = 1 := by decide +kernel
        rw [e]
        omega
      · have e : PySem.Txt.join " " (n :: r) = mk (iT (n :: r)) := mk_ext (join_JJ " " r n)
        rw [e]
        exact q
end
set_option Elab.async false
set_option linter.all false
set_option maxRecDepth 100000
set_option maxHeartbeats 4000000

theorem sum_le {m : Nat} : ∀ (ms : List Str), (∀ n ∈ ms, n.length ≤ m) → (ms.map (·.length)).sum ≤ m * ms.length
  | [], _ => by simp
  | z :: s, h => by
    have h1 := h z (by simp)
    have h2 := sum_le s fun n hn => h n (List.mem_cons_of_mem _ hn)
    rw [List.map_cons, List.sum_cons, List.length_cons, Nat.mul_add]
    omega
theorem txt_gate (g : Str × Rl) : g.1 ++ ("=" : Str) ++ mk (rT g.2) = mk (gT g) := mk_ext (by
  rw [app_list, app_list]
  show g.1.cps.toList ++ [61] ++ rT g.2 = _
  simp [gT])
theorem pg_tupK {X : Cx} {K : PySem.W.Frag} {es : List Expr} {k : Nat} {t : TGs} {n : Nat} {pos : Pos} (hK : X.K = K) (hc : X.calm = true) (h : PGs X es t)
    (hn : (assignEach es X.env).length = n := by rfl) (hst : (assignEach es X.env).findIdx? (·.1) = none := by rfl) : PG X (.Tuple es k pos) (gTup K n t) := by subst hK; exact pg_tup hc h hn hst
theorem seq_join {A B : TS} {D : Ends} {σ : St} {H : Hp} (J : St → Hp → Prop) (h : ∀ (R : St → Hp → Prop), (∀ σ H, J σ H → R σ H) → A { D with nx := R } σ H) (hJ : ∀ σ H, J σ H → B D σ H) : tSeq A B D σ H := h (B D) hJ
theorem se_con {c : Const} {n : Nat} {p : Pos} {es : List Expr} {env : Env} : starEach (.Constant c n p :: es) env = (false, eval (.Constant c n p) env) :: starEach es env := by rfl
section
variable {P : Program} {w : World} {K : PySem.W.Frag} {mg : Str → Option Value} {base : Heap} {TT : Addr}
theorem sc_show_net : FnScope ["net"] ["net"] (defScope (top 22)) := ⟨rfl, rfl, rfl, by decide +kernel, rfl, by decide +kernel, by decide +kernel⟩
theorem ok_shown {f : Addr} {fd : FuncData} (Fu : Fun K "show_net" "show_net" (top 22) f fd) (T : Txt K mg TT) (f_show_inputs : Fn P w K mg base "show_inputs" ["inputs"] 1 spShowI) (f_show_rule : Fn P w K mg base "show_rule" ["rule"] 10 (spShowR 10)) : FnOk P w K mg base CX0 11 f fd ["net"] spShowN := by
  have S := sc_show_net
  refine Fu.ok S (fun vs H Q E h => ?_) (fun cdv A outer s H vs Q E hr h => ?_)
  · obtain ⟨a, li, lg, ins, gvs, gs, rfl, _⟩ := h
    rfl
  · obtain ⟨a, li, lg, ins, gvs, gs, rfl, NA, ok, q⟩ := h
    obtain ⟨ha, hi, hg, gts⟩ := id NA
    have o := ok.low1
    have gl := paired_len gts
    have i4 := ok.i4
    have g7 := ok.g7
    have big : 1000000 < sizeLine := by decide
    refine' ⟨?_, (pss_one ?h0), ?_⟩
    case h0 => exact (ps_ret (pe_bm PySem.F.plainAttrs_str PySem.F.slot_str_join PySem.F.type_str_join mt_join pe_str (pa_cons (pe_op op_cat (pe_lst (pa_cons (pe_fn f_show_inputs (hr.mono (by first | decide | omega)) (by rfl) (pa_cons (pe_ix ix_tup (pv 0) pe_int (fun _ _ => rfl)) pa_nil)) pa_nil)) (pe_lc (tgs := ["name", "rule"]) (cap := []) rfl ⟨rfl, rfl, rfl, rfl, rfl, rfl⟩ (pi_list (pe_ix ix_tup (pv 0) pe_int (fun _ _ => rfl))) (fun _ _ _ _ => (pg_tupK (K := K) (n := 2) rfl rfl (pgs_cons (pg_name (i := 0) (show List.Nodup [("name" : Str), ("rule" : Str)] by decide +kernel) rfl (by first | exact Or.inl rfl | exact Or.inr rfl)) (pgs_cons (pg_name (i := 1) (show List.Nodup [("name" : Str), ("rule" : Str)] by decide +kernel) rfl (by first | exact Or.inl rfl | exact Or.inr rfl)) pgs_nil)))) (fun _ _ _ _ => pifs_nil) (fun _ _ _ _ => (pe_op op_add_str (pe_op op_add_str (pv 0) pe_str) (pe_fn f_show_rule (hr.mono (by first | decide | omega)) (by rfl) (pa_cons (pv 1) pa_nil)))))) pa_nil)))
    try dsimp only [cxOf, Cx.nox, Cx.wish]
    rw [show L2.start ["net"] [V.ref a] = [some (.ref a)] from rfl]
    repeat walk_at "vc"
    refine ⟨i_tyS, ?_⟩
    repeat walk_at "vc"
    refine ⟨li, ins, rfl, hi, i4, o.1, ?_⟩
    repeat walk_at "vc"
    refine ⟨by show 1 ≤ _; omega, fun p hp => ?_⟩
    generalize hE : upd H p _ = H1
    obtain ⟨S1, q1⟩ := upd_pair hp hE
    clear hE
    have hg1 := S1 _ _ hg
    have ha1 := S1 _ _ ha
    refine i_comp ?_
    repeat walk_at "vc"
    refine ⟨lg, rfl, ⟨_, SqL.of hg1⟩, fun D hD => ?_⟩
    refine comp_list (xs := gvs) (fun m H' ys => Same H1 H' ∧ H' D = some (.lst ys) ∧ ys = ((gs.take m).map fun g => V.str (mk (gT g)))) ⟨fresh_same hD, upd_same, rfl⟩ (fun m H' ys p => ⟨p.2.1, SqL.of (p.1 _ _ hg1)⟩) (fun m x H' ys e p => ?_) (fun H' ys p => ?_)
    · obtain ⟨Sm, hd, rfl⟩ := p
      have hn : m < gvs.length := (List.getElem?_eq_some_iff.mp e).1
      obtain ⟨g, e', b, rv, rfl, hb, hrr⟩ := paired_at gts m x e
      obtain ⟨o1, o2, o3⟩ := o.2 g (List.mem_of_getElem? e')
      have S0 := S1.trans Sm
      refine ⟨b, _, rfl, SqT.of (S0 _ _ hb), rfl, ?_⟩
      have l1 := (low_len o1).1
      have l1' : g.1.length ≤ 8 := o1.l8
      have l2 := rT_small o2 o3
      refine ⟨_, _, rfl, s_name ⟨_, _, rfl, s_name ⟨rfl, ⟨trivial, i_yes (iteT ?_)⟩⟩⟩⟩
      repeat walk_at "vc"
      refine ⟨_, _, rfl, rfl, by show _ + 1 ≤ _; omega, ?_⟩
      repeat walk_at "vc"
      refine ⟨rv, g.2, rfl, hrr.mono (Same.tups S0), o3, o3, o2, fun H2 S2 => ?_⟩
      refine ⟨_, _, rfl, rfl, by rw [len_app, mk_len]; show _ + 1 + _ ≤ _; omega, ?_⟩
      refine NextC.mk (S2 _ _ hd) hn (by rw [List.length_map, List.length_take]; omega) ⟨same_upd (Sm.trans S2) hD, upd_same, ?_⟩
      rw [List.take_succ, e', List.map_append]
      show _ ++ [V.str (g.1 ++ ("=" : Str) ++ mk (rT g.2))] = _
      rw [txt_gate]
      rfl
    · obtain ⟨Sm, hd, rfl⟩ := p
      rw [gl, List.take_length] at hd
      refine i_cat (Sm _ _ q1) hd (by rw [List.length_map]; show 1 + _ ≤ _; omega) fun p2 hp2 => ?_
      generalize hE : upd H' p2 _ = H2
      obtain ⟨S2, q2⟩ := upd_pair hp2 hE
      clear hE
      repeat walk_at "vc"
      have q2' : H2 p2 = some (.lst ((mk (iT ins) :: gs.map fun g => mk (gT g)).map V.str)) := by
        rw [q2, List.map_cons, List.map_map]
        rfl
      refine i_join q2' ?_ ?_
      · have z := sum_le (m := 13400) (mk (iT ins) :: gs.map fun g => mk (gT g)) fun z hz => by
          rcases List.mem_cons.mp hz with e | hz
          · subst e; rw [mk_len]; exact Nat.le_trans (iT_len o.1 i4) (by decide)
          · obtain ⟨g, hg, rfl⟩ := List.mem_map.mp hz
            obtain ⟨o1, o2, o3⟩ := o.2 g hg
            rw [mk_len]
            exact gT_len o1 o2 o3
        have e : ("; " : Str).length = 2 := by decide +kernel
        rw [e]
        rw [List.length_cons, List.length_map] at z ⊢
        omega
      · have e : PySem.Txt.join "; " (mk (iT ins) :: gs.map fun g => mk (gT g)) = mk (nT ins gs) := mk_ext (by
          rw [join_JJ, List.map_map]
          rfl)
        rw [e]
        exact q H2 ((S1.trans Sm).trans S2)
end
set_option Elab.async false
set_option linter.all false
set_option maxRecDepth 100000
set_option maxHeartbeats 4000000

noncomputable def spReadI : Sp := fun vs H Q _ => ∃ (ns : List Str), vs = [.str (mk (iT ns))] ∧ ns.length ≤ 20 ∧ (∀ n ∈ ns, Low n) ∧ ∀ l H', Same H H' → H l = none → H' l = some (.lst (ns.map V.str)) → Q (.ref l) H'
noncomputable def Stop (suf : List Nat) : Prop := ∀ c, suf[0]? = some c → c < 97 ∨ 122 < c
noncomputable def spReadW : Sp := fun vs H Q _ => ∃ (z : Str) (pre suf : List Nat) (n : Str), vs = [.str z, .int (pre.length : Nat)] ∧ z.cps.toList = pre ++ (n.cps.toList ++ suf) ∧ Low n ∧ Stop suf ∧ z.length ≤ 1000000 ∧
  ∀ a b H', Same H H' → H' a = some (.tup [.ref b, .int ((pre.length : Nat) + (n.cps.toList.length : Nat))]) → H' b = some (.tup [.str "wire", .str n]) → Q (.ref a) H'
theorem slice_mid {z : Str} {a b : Nat} (h1 : a ≤ b) (h2 : b ≤ z.length) : PySem.Txt.slice z (some (a : Int)) (some (b : Int)) = mk ((z.cps.toList.drop a).take (b - a)) := PySem.StrLaws.sliceText_nat z h1 h2
theorem not_in {c : Nat} (h : c < 97 ∨ 122 < c) : (!(Builtin.Str.occurrences (Str.ofString "abcdefghijklmnopqrstuvwxyz") (⟨#[c]⟩ : Str) 0 (Str.ofString "abcdefghijklmnopqrstuvwxyz").length 1).isEmpty) = false := by
  rw [PySem.StrLaws.found_one]
  refine decide_eq_false fun m => ?_
  have all : ∀ c ∈ (Str.ofString "abcdefghijklmnopqrstuvwxyz").cps.toList, 97 ≤ c ∧ c ≤ 122 := by decide +kernel
  have := all c m
  omega
section
variable {P : Program} {w : World} {K : PySem.W.Frag} {mg : Str → Option Value} {base : Heap} {TT : Addr}
theorem sc_read_inputs : FnScope ["text"] ["text"] (defScope (top 23)) := ⟨rfl, rfl, rfl, by decide +kernel, rfl, by decide +kernel, by decide +kernel⟩
theorem ok_readi {f : Addr} {fd : FuncData} (Fu : Fun K "read_inputs" "read_inputs" (top 23) f fd) (T : Txt K mg TT) : FnOk P w K mg base CX0 1 f fd ["text"] spReadI := by
  have S := sc_read_inputs
  refine Fu.ok S (fun vs H Q E h => ?_) (fun cdv A outer s H vs Q E hr h => ?_)
  · obtain ⟨ns, rfl, _⟩ := h
    rfl
  · obtain ⟨ns, rfl, n20, lw, q⟩ := h
    refine ⟨_, (pss_one (ps_ret (pe_ifExp (pt_cmpR op_eq (pv 0) pe_str (nomark _)) (pe_lst pa_nil) (pe_bm PySem.F.plainAttrs_str PySem.F.slot_str_split PySem.F.type_str_split mt_split (pv 0) (pa_cons pe_str pa_nil))))), ?_⟩
    try dsimp only [cxOf, Cx.nox, Cx.wish]
    rw [show L2.start ["text"] [V.str (mk (iT ns))] = [some (.str (mk (iT ns)))] from rfl]
    have big : 1000000 < sizeLine := by decide
    repeat walk_at "vc"
    cases ns with
    | nil =>
      refine ifT (by decide +kernel) ?_
      repeat walk_at "vc"
      refine ⟨by show 0 ≤ _; omega, fun p hp => ?_⟩
      exact q p _ (fresh_same hp) hp upd_same
    | cons n r =>
      refine ifF (decide_eq_false fun h => ?_) ?_
      · injection h with h
        have e : iT (n :: r) = [45] := congrArg (fun z : Str => z.cps.toList) h
        have m : 45 ∈ iT (n :: r) := by rw [e]; simp
        rcases JJ_mem _ _ m with z | ⟨s, hs, z⟩
        · simp at z
        · rcases List.mem_cons.mp hs with e | hs
          · subst e; exact low_out (lw n (by simp)) (.inl (by decide)) z
          · obtain ⟨s, hs', rfl⟩ := List.mem_map.mp hs
            exact low_out (lw s (List.mem_cons_of_mem _ hs')) (.inl (by decide)) z
      repeat walk_at "vc"
      refine ⟨i_tyS, ?_⟩
      repeat walk_at "vc"
      have il := iT_len lw n20
      refine ⟨_, _, rfl, rfl, by decide +kernel, by rw [mk_len]; omega, fun p hp => ?_⟩
      have e := iT_split lw
      refine q p _ (fresh_same hp) hp ?_
      rw [upd_same]
      exact congrArg (fun l : List Str => some (HO.lst (l.map V.str))) e
theorem sc_read_wire : FnScope ["text", "at", "end"] ["text", "at"] (defScope (top 24)) := ⟨rfl, rfl, rfl, by decide +kernel, rfl, by decide +kernel, by decide +kernel⟩
theorem ok_readw {f : Addr} {fd : FuncData} (Fu : Fun K "read_wire" "read_wire" (top 24) f fd) (T : Txt K mg TT) : FnOk P w K mg base CX0 1 f fd ["text", "at"] spReadW := by
  have S := sc_read_wire
  refine Fu.ok S (fun vs H Q E h => ?_) (fun cdv A outer s H vs Q E hr h => ?_)
  · obtain ⟨z, pre, suf, n, rfl, _⟩ := h
    rfl
  · obtain ⟨z, pre, suf, n, rfl, ez, ln, st, zl, q⟩ := h
    obtain ⟨_, gLT⟩ := T.lETTERS
    have big : 1000000 < sizeLine := by decide
    have lz : z.cps.toList.length = z.length := Array.length_toList ..
    have le := congrArg List.length ez
    rw [lz, List.length_append, List.length_append] at le
    refine ⟨_, (pss_cons (ps_set (i := 2) S.nd rfl (by first | exact Or.inl rfl | exact Or.inr rfl) (pv 1))
      (pss_cons (ps_while PassesOwn.never (PW.pt (pw_and (pt_cmpR op_lt (pv 2) (pe_callB call_len_str (by rfl) T.n_len PySem.boot_len (pa_cons (pv 0) pa_nil)) (nomark _)) (pw_and1 (pt_cmpR op_in_str (pe_ix ix_str (pv 0) (pv 2) (fun _ _ => rfl)) (pe_glob (v := .str "abcdefghijklmnopqrstuvwxyz") (by rfl) gLT ⟨_, rfl⟩) rfl))))
      (pss_one (ps_aug (i := 2) S.nd rfl (by first | exact Or.inl rfl | exact Or.inr rfl) pe_int ip_add)))
      (pss_one (ps_ret (pe_tup (pa_cons (pe_tup (pa_cons pe_str (pa_cons (pe_slice sl_str (pv 0) (po_some (pv 1)) (po_some (pv 2))) pa_nil))) (pa_cons (pv 2) pa_nil))))))), ?_⟩
    try dsimp only [cxOf, Cx.nox, Cx.wish]
    rw [show L2.start ["text", "at", "end"] [V.str z, V.int (pre.length : Nat)] = [some (.str z), some (.int (pre.length : Nat)), none] from rfl]
    repeat walk_at "vc"
    refine ⟨fun m σ H' => H' = H ∧ ∃ e : Nat, e ≤ n.cps.toList.length ∧ m = n.cps.toList.length - e ∧ σ = [some (.str z), some (.int (pre.length : Nat)), some (.int ((pre.length + e : Nat)))], ⟨_, rfl, 0, by omega, rfl, rfl⟩, ?_⟩
    rintro m σ H' ⟨rfl, e, e1, rfl, rfl⟩
    repeat walk_at "vc"
    refine ⟨_, rfl, by omega, ?_⟩
    repeat walk_at "vc"
    have stop : tRet (tTup (tCons (tTup (tCons (tC (V.str "wire")) (tCons (tSl rSlS (tVar 0) (tPart (tVar 1)) (tPart (tVar 2))) tNil))) (tCons (tVar 2) tNil))) { nx := fun _ H' => Q .non H', rt := Q } [some (.str z), some (.int (pre.length : Nat)), some (.int ((pre.length + n.cps.toList.length : Nat)))] H' := by
      repeat walk_at "vc"
      refine i_slS (by omega) ?_
      rw [slice_mid (by omega) (by omega)]
      have ec : mk ((z.cps.toList.drop pre.length).take (pre.length + n.cps.toList.length - pre.length)) = n := by
        rw [ez, List.drop_left, show pre.length + n.cps.toList.length - pre.length = n.cps.toList.length by omega, List.take_left]
        exact (mk_ext rfl).symm
      rw [ec]
      repeat walk_at "vc"
      refine ⟨by show 2 ≤ _; omega, fun p hp => ?_⟩
      generalize hE : upd H' p _ = H1
      obtain ⟨S1, q1⟩ := upd_pair hp hE
      clear hE
      repeat walk_at "vc"
      refine ⟨by show 2 ≤ _; omega, fun p2 hp2 => ?_⟩
      generalize hE : upd H1 p2 _ = H2
      obtain ⟨S2, q2⟩ := upd_pair hp2 hE
      clear hE
      refine q p2 p H2 (S1.trans S2) ?_ (S2 _ _ q1)
      rw [q2]
      simp
    by_cases c : pre.length + e < z.length
    · refine ifT (decide_eq_true (by omega)) ?_
      repeat walk_at "vc"
      have hlt : pre.length + e < z.cps.toList.length := by omega
      refine i_ixS (c := z.cps.toList[pre.length + e]) (by omega) (atI_nat (List.getElem?_eq_getElem hlt)) ?_
      repeat walk_at "vc"
      have eg : z.cps.toList[pre.length + e]? = (n.cps.toList ++ suf)[e]? := by rw [ez, List.getElem?_append_right (by omega), show pre.length + e - pre.length = e by omega]
      rw [List.getElem?_eq_getElem hlt] at eg
      refine ⟨_, _, rfl, rfl, ?_⟩
      by_cases c2 : e < n.cps.toList.length
      · rw [List.getElem?_append_left c2, List.getElem?_eq_getElem c2] at eg
        have hc := low_in (c := z.cps.toList[pre.length + e]) (by rw [Option.some.inj eg]; exact ln.low _ (List.getElem_mem c2))
        refine ⟨_, rfl, ifT hc ?_⟩
        refine ⟨fun σ2 H2 => H2 = H' ∧ σ2 = [some (.str z), some (.int (pre.length : Nat)), some (.int ((pre.length + (e + 1) : Nat)))], fun σ2 H2 hh => ⟨n.cps.toList.length - (e + 1), by omega, hh.1, e + 1, by omega, rfl, hh.2⟩, ?_⟩
        refine ⟨_, rfl, ?_⟩
        repeat walk_at "vc"
        refine ⟨_, _, rfl, rfl, rfl, ?_⟩
        simp [Int.natCast_add, Int.add_assoc]
      · have ee : e = n.cps.toList.length := by omega
        subst ee
        rw [List.getElem?_append_right (by omega), Nat.sub_self] at eg
        have hc := not_in (st _ eg.symm)
        refine ⟨_, rfl, ifF hc ?_⟩
        exact stop
    · refine ifF (decide_eq_false (by omega)) ?_
      have ee : e = n.cps.toList.length := by omega
      subst ee
      first | exact stop | exact iteF stop
end
set_option Elab.async false
set_option linter.all false
set_option maxRecDepth 100000
set_option maxHeartbeats 4000000

noncomputable def spReadR (d : Nat) : Sp := fun vs H Q _ => ∃ (z : Str) (pre suf : List Nat) (r : Rl) (n : Int), vs = [.str z, .int (pre.length : Nat), .int n] ∧ z.cps.toList = pre ++ (rT r ++ suf) ∧ low r ∧ Stop suf ∧ r.dep ≤ d ∧ (r.dep : Int) ≤ n ∧ n ≤ 100 ∧ z.length ≤ 1000000 ∧
  ∀ a v H', Same H H' → H' a = some (.tup [v, .int ((pre.length : Nat) + ((rT r).length : Nat))]) → RAt H' v r → Q (.ref a) H'
noncomputable def bin (b : Bool) (r s : Rl) : Rl := if b then .an r s else .orr r s
noncomputable def mid (b : Bool) : List Nat := [32, if b then 38 else 124, 32]
theorem rT_bin (b : Bool) (r s : Rl) : rT (bin b r s) = 40 :: (rT r ++ (mid b ++ (rT s ++ [41]))) := by cases b <;> rfl
noncomputable def spReadT (d : Nat) : Sp := fun vs H Q _ => ∃ (z : Str) (pre suf : List Nat) (b : Bool) (r s : Rl) (n : Int), vs = [.str z, .int (pre.length : Nat), .int n] ∧ z.cps.toList = pre ++ (rT r ++ (mid b ++ (rT s ++ (41 :: suf)))) ∧ low r ∧ low s ∧ r.dep ≤ d ∧ s.dep ≤ d ∧ (r.dep : Int) ≤ n ∧ (s.dep : Int) ≤ n ∧ n ≤ 100 ∧ z.length ≤ 1000000 ∧
  ∀ a v H', Same H H' → H' a = some (.tup [v, .int ((pre.length : Nat) + ((rT r).length + (3 + ((rT s).length + 1)) : Nat))]) → RAt H' v (bin b r s) → Q (.ref a) H'
theorem i_kin {ty : TE} {σ : St} {H : Hp} {Q : VK} (q : ty σ H fun y H1 => (y = .str " & " ∧ Q (.str "and") H1) ∨ (y = .str " | " ∧ Q (.str "or") H1)) : tKin ty σ H Q := q
noncomputable def kindS (b : Bool) : Str := if b then "and" else "or"
theorem rat_bin {H : Hp} {a : Addr} {v u : V} {b : Bool} {r s : Rl} (h : H a = some (.tup [.str (kindS b), v, u])) (h1 : RAt H v r) (h2 : RAt H u s) : RAt H (.ref a) (bin b r s) := by
  cases b with
  | true => exact .an h h1 h2
  | false => exact .orr h h1 h2
theorem stop_mid (b : Bool) (l : List Nat) : Stop (mid b ++ l) := fun c h => by
  have : some 32 = some c := h
  cases this
  exact .inl (by decide)
theorem stop_41 (l : List Nat) : Stop (41 :: l) := fun c h => by
  have : some 41 = some c := h
  cases this
  exact .inl (by decide)
theorem tup2 {v : V} {i j : Int} (h : i = j) : some (HO.tup [v, .int i]) = some (.tup [v, .int j]) := by rw [h]
section
variable {P : Program} {w : World} {K : PySem.W.Frag} {mg : Str → Option Value} {base : Heap} {TT : Addr}
theorem sc_read_two : FnScope ["text", "at", "depth", "one", "kind", "other"] ["text", "at", "depth"] (defScope (top 25)) := ⟨rfl, rfl, rfl, by decide +kernel, rfl, by decide +kernel, by decide +kernel⟩
theorem ok_rt {f : Addr} {fd : FuncData} (Fu : Fun K "read_two" "read_two" (top 25) f fd) (T : Txt K mg TT) {d : Nat} (f_read_rule : Fn P w K mg base "read_rule" ["text", "at", "depth"] (2 * d + 1) (spReadR d)) : FnOk P w K mg base CX0 (2 * d + 2) f fd ["text", "at", "depth"] (spReadT d) := by
  have S := sc_read_two
  refine Fu.ok S (fun vs H Q E h => ?_) (fun cdv A outer s H vs Q E hr h => ?_)
  · obtain ⟨z, pre, suf, b, r1, r2, n, rfl, _⟩ := h
    rfl
  · obtain ⟨z, pre, suf, b, r1, r2, n, rfl, ez, l1, l2, d1, d2, n1, n2, n100, zl, q⟩ := h
    obtain ⟨TK, tK1, tK2⟩ := T.kin
    have big : 1000000 < sizeLine := by decide
    have lz : z.cps.toList.length = z.length := Array.length_toList ..
    have le := congrArg List.length ez
    simp only [lz, List.length_append, List.length_cons] at le
    have lm : (mid b).length = 3 := rfl
    refine ⟨_, (pss_cons (ps_set (i := 3) S.nd rfl (by first | exact Or.inl rfl | exact Or.inr rfl) (pe_fn f_read_rule (hr.mono (by first | decide | omega)) (by rfl) (pa_cons (pv 0) (pa_cons (pv 1) (pa_cons (pv 2) pa_nil)))))
      (pss_cons (ps_set (i := 4) S.nd rfl (by first | exact Or.inl rfl | exact Or.inr rfl) (pe_kin tK2 (pe_glob (v := .ref TK) (by rfl) tK1 rfl) (pe_slice sl_str (pv 0) (po_some (pe_ix ix_tup (pv 3) pe_int (fun _ _ => rfl))) (po_some (pe_op op_add (pe_ix ix_tup (pv 3) pe_int (fun _ _ => rfl)) pe_int))) ⟨rfl, rfl, rfl, rfl⟩))
      (pss_cons (ps_if (pt_cmpR op_isN (pv 4) pe_non rfl) pss_never pss_nil)
      (pss_cons (ps_set (i := 5) S.nd rfl (by first | exact Or.inl rfl | exact Or.inr rfl) (pe_fn f_read_rule (hr.mono (by first | decide | omega)) (by rfl) (pa_cons (pv 0) (pa_cons (pe_op op_add (pe_ix ix_tup (pv 3) pe_int (fun _ _ => rfl)) pe_int) (pa_cons (pv 2) pa_nil)))))
      (pss_one (ps_ret (pe_tup (pa_cons (pe_tup (pa_cons (pv 4) (pa_cons (pe_ix ix_tup (pv 3) pe_int (fun _ _ => rfl)) (pa_cons (pe_ix ix_tup (pv 5) pe_int (fun _ _ => rfl)) pa_nil)))) (pa_cons (pe_op op_add (pe_ix ix_tup (pv 5) pe_int (fun _ _ => rfl)) pe_int) pa_nil))))))))), ?_⟩
    try dsimp only [cxOf, Cx.nox, Cx.wish]
    rw [show L2.start ["text", "at", "depth", "one", "kind", "other"] [V.str z, V.int (pre.length : Nat), V.int n] = [some (.str z), some (.int (pre.length : Nat)), some (.int n), none, none, none] from rfl]
    repeat walk_at "vc"
    refine ⟨z, pre, _, r1, n, rfl, ez, l1, stop_mid b _, d1, n1, n100, zl, fun a1 v1 H1 S1 ha1 h1 => ?_⟩
    repeat walk_at "vc"
    refine i_kin ?_
    repeat walk_at "vc"
    refine i_slS (by omega) ?_
    have e3 : PySem.Txt.slice z (some ((pre.length : Nat) + ((rT r1).length : Nat))) (some ((pre.length : Nat) + ((rT r1).length : Nat) + 3)) = mk (mid b) := by
      have e := slice_mid (z := z) (a := pre.length + (rT r1).length) (b := pre.length + (rT r1).length + 3) (by omega) (by omega)
      rw [Int.natCast_add, Int.natCast_add] at e
      refine e.trans ?_
      rw [ez, ← List.drop_drop, List.drop_left, List.drop_left, show pre.length + (rT r1).length + 3 - (pre.length + (rT r1).length) = (mid b).length by omega, List.take_left]
    rw [e3]
    have go : tSeq (tIfS (tTest (tOp (fun x y H Q => y = V.non ∧ Q (.bl (decide (x = .non))) H) (tVar 4) (tC V.non))) tNever tNext)
        (tSeq (tAsg (tCall (spReadR d) [] E0 (tCons (tVar 0) (tCons (tOp (rI0 fun i j => V.int (i + j)) (tOp (rIxT K) (tVar 3) (tC (V.int 1))) (tC (V.int 3))) (tCons (tVar 2) tNil)))) (gName 5))
          (tRet (tTup (tCons (tTup (tCons (tVar 4) (tCons (tOp (rIxT K) (tVar 3) (tC (V.int 0))) (tCons (tOp (rIxT K) (tVar 5) (tC (V.int 0))) tNil)))) (tCons (tOp (rI0 fun i j => V.int (i + j)) (tOp (rIxT K) (tVar 5) (tC (V.int 1))) (tC (V.int 1))) tNil)))))
        { nx := fun _ H' => Q .non H', rt := Q } [some (.str z), some (.int (pre.length : Nat)), some (.int n), some (.ref a1), some (.str (kindS b)), none] H1 := by
      repeat walk_at "vc"
      refine ⟨rfl, ?_⟩
      repeat walk_at "vc"
      refine ifF (by cases b <;> decide +kernel) ?_
      repeat walk_at "vc"
      refine ⟨z, pre ++ (rT r1 ++ mid b), 41 :: suf, r2, n, ?_, ?_, l2, stop_41 _, d2, n2, n100, zl, fun a2 v2 H2 S2 ha2 h2 => ?_⟩
      · rw [List.length_append, List.length_append, lm]
        simp [Int.natCast_add, Int.add_assoc]
      · rw [ez]; simp
      have ha1' := S2 _ _ ha1
      repeat walk_at "vc"
      refine ⟨by show 3 ≤ _; omega, fun p hp => ?_⟩
      generalize hE : upd H2 p _ = H3
      obtain ⟨S3, q3⟩ := upd_pair hp hE
      clear hE
      have ha2' := S3 _ _ ha2
      repeat walk_at "vc"
      refine ⟨by show 2 ≤ _; omega, fun p2 hp2 => ?_⟩
      generalize hE : upd H3 p2 _ = H4
      obtain ⟨S4, q4⟩ := upd_pair hp2 hE
      clear hE
      refine q p2 (.ref p) H4 (S1.trans (S2.trans (S3.trans S4))) ?_ (rat_bin (S4 _ _ q3) (h1.mono (Same.tups (S2.trans (S3.trans S4)))) (h2.mono (Same.tups (S3.trans S4))))
      rw [q4]
      refine tup2 ?_
      rw [List.length_append, List.length_append, lm]
      push_cast
      omega
    cases b with
    | true => exact .inl ⟨rfl, go⟩
    | false => exact .inr ⟨rfl, go⟩
theorem sc_read_rule : FnScope ["text", "at", "depth", "sign", "part"] ["text", "at", "depth"] (defScope (top 26)) := ⟨rfl, rfl, rfl, by decide +kernel, rfl, by decide +kernel, by decide +kernel⟩
theorem ok_rr {f : Addr} {fd : FuncData} (Fu : Fun K "read_rule" "read_rule" (top 26) f fd) (T : Txt K mg TT) {d : Nat} (f_read_wire : Fn P w K mg base "read_wire" ["text", "at"] 1 spReadW) (f_read_rule : Fn P w K mg base "read_rule" ["text", "at", "depth"] (2 * d + 1) (spReadR d)) (f_read_two : Fn P w K mg base "read_two" ["text", "at", "depth"] (2 * d + 2) (spReadT d)) : FnOk P w K mg base CX0 (2 * (d + 1) + 1) f fd ["text", "at", "depth"] (spReadR (d + 1)) := by
  have S := sc_read_rule
  refine Fu.ok S (fun vs H Q E h => ?_) (fun cdv A outer s H vs Q E hr h => ?_)
  · obtain ⟨z, pre, suf, r, n, rfl, _⟩ := h
    rfl
  · obtain ⟨z, pre, suf, r, n, rfl, ez, lw, st, hd, hn, n100, zl, q⟩ := h
    have big : 1000000 < sizeLine := by decide
    have lz : z.cps.toList.length = z.length := Array.length_toList ..
    have le := congrArg List.length ez
    simp only [lz, List.length_append] at le
    have dp := dep_pos r
    refine ⟨_, (pss_cons (ps_if (pt_cmpR op_lt (pv 2) pe_int (nomark _)) pss_never pss_nil)
      (pss_cons (ps_set (i := 3) S.nd rfl (by first | exact Or.inl rfl | exact Or.inr rfl) (pe_slice sl_str (pv 0) (po_some (pv 1)) (po_some (pe_op op_add (pv 1) pe_int))))
      (pss_cons (ps_if (pt_cmpR op_eq (pv 3) pe_str (nomark _)) (pss_one (ps_ret (pe_fn f_read_two (hr.mono (by first | decide | omega)) (by rfl) (pa_cons (pv 0) (pa_cons (pe_op op_add (pv 1) pe_int) (pa_cons (pe_op op_sub (pv 2) pe_int) pa_nil)))))) pss_nil)
      (pss_cons (ps_if (pt_cmpR op_eq (pv 3) pe_str (nomark _)) (pss_cons (ps_set (i := 4) S.nd rfl (by first | exact Or.inl rfl | exact Or.inr rfl) (pe_fn f_read_rule (hr.mono (by first | decide | omega)) (by rfl) (pa_cons (pv 0) (pa_cons (pe_op op_add (pv 1) pe_int) (pa_cons (pe_op op_sub (pv 2) pe_int) pa_nil)))))
      (pss_one (ps_ret (pe_tup (pa_cons (pe_tup (pa_cons pe_str (pa_cons (pe_ix ix_tup (pv 4) pe_int (fun _ _ => rfl)) pa_nil))) (pa_cons (pe_ix ix_tup (pv 4) pe_int (fun _ _ => rfl)) pa_nil)))))) pss_nil)
      (pss_one (ps_ret (pe_fn f_read_wire (hr.mono (by first | decide | omega)) (by rfl) (pa_cons (pv 0) (pa_cons (pv 1) pa_nil))))))))), ?_⟩
    try dsimp only [cxOf, Cx.nox, Cx.wish]
    rw [show L2.start ["text", "at", "depth", "sign", "part"] [V.str z, V.int (pre.length : Nat), V.int n] = [some (.str z), some (.int (pre.length : Nat)), some (.int n), none, none] from rfl]
    repeat walk_at "vc"
    refine ifF (decide_eq_false (by omega)) ?_
    repeat walk_at "vc"
    refine i_slS (by omega) ?_
    have e3 : ∀ (c : Nat) (t : List Nat), rT r = c :: t → PySem.Txt.slice z (some (pre.length : Nat)) (some ((pre.length : Nat) + 1)) = mk [c] := fun c t er => by
      have e := slice_mid (z := z) (a := pre.length) (b := pre.length + 1) (by omega) (by rw [er, List.length_cons] at le; omega)
      rw [Int.natCast_add] at e
      refine e.trans ?_
      rw [ez, List.drop_left, er, show pre.length + 1 - pre.length = 1 by omega]
      rfl
    cases r with
    | w nm =>
      obtain ⟨c, t, ec⟩ : ∃ c t, nm.cps.toList = c :: t := by
        have := (low_len lw).2
        cases e : nm.cps.toList with
        | nil => rw [e] at this; simp at this
        | cons c t => exact ⟨c, t, rfl⟩
      have hc := Low.low lw c (by rw [ec]; simp)
      rw [e3 c t ec]
      repeat walk_at "vc"
      refine ifF (decide_eq_false fun h => ?_) ?_
      · injection h with h
        have : [c] = [40] := congrArg (fun z : Str => z.cps.toList) h
        cases this
        omega
      repeat walk_at "vc"
      refine ifF (decide_eq_false fun h => ?_) ?_
      · injection h with h
        have : [c] = [33] := congrArg (fun z : Str => z.cps.toList) h
        cases this
        omega
      repeat walk_at "vc"
      refine ⟨z, pre, suf, nm, rfl, ez, lw, st, zl, fun a b H1 S1 h1 h2 => ?_⟩
      exact q a (.ref b) H1 S1 h1 (.w h2)
    | no r1 =>
      rw [e3 33 _ rfl]
      repeat walk_at "vc"
      refine ifF (by decide +kernel) ?_
      repeat walk_at "vc"
      refine ifT (by decide +kernel) ?_
      repeat walk_at "vc"
      have dr : (Rl.no r1).dep = r1.dep + 1 := rfl
      refine ⟨z, pre ++ [33], suf, r1, n - 1, by simp, by rw [ez]; simp [rT], lw, st, by omega, by omega, by omega, zl, fun a v H1 S1 ha h1 => ?_⟩
      repeat walk_at "vc"
      refine ⟨by show 2 ≤ _; omega, fun p hp => ?_⟩
      generalize hE : upd H1 p _ = H2
      obtain ⟨S2, q2⟩ := upd_pair hp hE
      clear hE
      have ha' := S2 _ _ ha
      repeat walk_at "vc"
      refine ⟨by show 2 ≤ _; omega, fun p2 hp2 => ?_⟩
      generalize hE : upd H2 p2 _ = H3
      obtain ⟨S3, q3⟩ := upd_pair hp2 hE
      clear hE
      refine q p2 (.ref p) H3 (S1.trans (S2.trans S3)) ?_ (.no (S3 _ _ q2) (h1.mono (Same.tups (S2.trans S3))))
      rw [q3]
      refine tup2 ?_
      simp only [rT, List.length_append, List.length_cons, List.length_nil]
      push_cast
      omega
    | an r1 r2 =>
      rw [e3 40 _ rfl]
      repeat walk_at "vc"
      refine ifT (by decide +kernel) ?_
      repeat walk_at "vc"
      have dr : (Rl.an r1 r2).dep = max r1.dep r2.dep + 1 := rfl
      refine ⟨z, pre ++ [40], suf, true, r1, r2, n - 1, by simp, by rw [ez]; simp [rT, mid], lw.1, lw.2, by omega, by omega, by omega, by omega, by omega, zl, fun a v H1 S1 ha h1 => ?_⟩
      refine q a v H1 S1 ?_ h1
      rw [ha]
      refine tup2 ?_
      simp only [rT, List.length_append, List.length_cons, List.length_nil]
      push_cast
      omega
    | orr r1 r2 =>
      rw [e3 40 _ rfl]
      repeat walk_at "vc"
      refine ifT (by decide +kernel) ?_
      repeat walk_at "vc"
      have dr : (Rl.orr r1 r2).dep = max r1.dep r2.dep + 1 := rfl
      refine ⟨z, pre ++ [40], suf, false, r1, r2, n - 1, by simp, by rw [ez]; simp [rT, mid], lw.1, lw.2, by omega, by omega, by omega, by omega, by omega, zl, fun a v H1 S1 ha h1 => ?_⟩
      refine q a v H1 S1 ?_ h1
      rw [ha]
      refine tup2 ?_
      simp only [rT, List.length_append, List.length_cons, List.length_nil]
      push_cast
      omega
theorem ok_read {f f2 : Addr} {fd fd2 : FuncData} (Fu : Fun K "read_rule" "read_rule" (top 26) f fd) (T : Txt K mg TT) (hm : mg "read_rule" = some (.ref f)) (hk : PySem.W.keepIn K (.ref f) = true) (hb : Binds K fd ["text", "at", "depth"] [])
    (F2 : Fun K "read_two" "read_two" (top 25) f2 fd2) (hm2 : mg "read_two" = some (.ref f2)) (hk2 : PySem.W.keepIn K (.ref f2) = true) (hb2 : Binds K fd2 ["text", "at", "depth"] []) (f_read_wire : Fn P w K mg base "read_wire" ["text", "at"] 1 spReadW) : ∀ d, FnOk P w K mg base CX0 (2 * d + 1) f fd ["text", "at", "depth"] (spReadR d)
  | 0 => fnok_false fun vs H Q E ⟨z, pre, suf, r, n, _, _, _, _, h, _⟩ => by have := dep_pos r; omega
  | d + 1 => by
    have f1 : Fn P w K mg base "read_rule" ["text", "at", "depth"] (2 * d + 1) (spReadR d) := ⟨f, fd, ok_read Fu T hm hk hb F2 hm2 hk2 hb2 f_read_wire d, hm, hk, hb⟩
    exact ok_rr Fu T f_read_wire f1 ⟨f2, fd2, ok_rt F2 T f1, hm2, hk2, hb2⟩
end
set_option Elab.async false
set_option linter.all false
set_option maxRecDepth 100000
set_option maxHeartbeats 4000000

noncomputable def spReadG : Sp := fun vs H Q _ => ∃ (g : Str × Rl), vs = [.str (mk (gT g))] ∧ Low g.1 ∧ low g.2 ∧ g.2.dep ≤ 10 ∧ ∀ a v H', Same H H' → H' a = some (.tup [.str g.1, v]) → RAt H' v g.2 → Q (.ref a) H'
noncomputable def spReadN : Sp := fun vs H Q _ => ∃ (ins : List Str) (gs : List (Str × Rl)), vs = [.str (mk (nT ins gs))] ∧ NetOk ins gs ∧ IsNet ins gs ∧ ∀ a li lg gvs H', Same H H' → H a = none → H li = none → H lg = none → li ≠ lg → NAt H' a li lg ins gvs gs → Q (.ref a) H'
theorem sub_pre (p R : List Nat) (c : Nat) : Builtin.Str.strSub (mk (p ++ c :: R)) 0 p.length = mk p := mk_ext (by
  rw [PySem.StrLaws.strSub_toList, mk_list, List.drop_zero, Nat.sub_zero, List.take_left])
theorem sub_suf (p R : List Nat) (c : Nat) : Builtin.Str.strSub (mk (p ++ c :: R)) (p.length + 1) (mk (p ++ c :: R)).length = mk R := mk_ext (by
  rw [PySem.StrLaws.strSub_toList, mk_list, mk_len]
  have e : (p ++ c :: R).drop (p.length + 1) = R := by rw [← List.drop_drop, List.drop_left]; rfl
  rw [e]
  exact List.take_of_length_le (by rw [List.length_append, List.length_cons]; omega))
theorem paired_snoc {α β : Type} {F : α → β → Prop} : ∀ {xs : List α} {ys : List β} {x : α} {y : β}, Paired F xs ys → F x y → Paired F (xs ++ [x]) (ys ++ [y])
  | _, _, _, _, .nil, h => .cons h .nil
  | _, _, _, _, .cons h t, g => .cons h (paired_snoc t g)
section
variable {P : Program} {w : World} {K : PySem.W.Frag} {mg : Str → Option Value} {base : Heap} {TT : Addr}
theorem sc_read_gate : FnScope ["text", "parts"] ["text"] (defScope (top 27)) := ⟨rfl, rfl, rfl, by decide +kernel, rfl, by decide +kernel, by decide +kernel⟩
theorem ok_readg {f : Addr} {fd : FuncData} (Fu : Fun K "read_gate" "read_gate" (top 27) f fd) (T : Txt K mg TT) (f_read_rule : Fn P w K mg base "read_rule" ["text", "at", "depth"] 21 (spReadR 10)) : FnOk P w K mg base CX0 22 f fd ["text"] spReadG := by
  have S := sc_read_gate
  refine Fu.ok S (fun vs H Q E h => ?_) (fun cdv A outer s H vs Q E hr h => ?_)
  · obtain ⟨g, rfl, _⟩ := h
    rfl
  · obtain ⟨g, rfl, l1, l2, hd, q⟩ := h
    obtain ⟨_, gMR⟩ := T.mRULES
    have big : 1000000 < sizeLine := by decide
    have gl := gT_len l1 l2 hd
    refine ⟨_, (pss_cons (ps_set (i := 1) S.nd rfl (by first | exact Or.inl rfl | exact Or.inr rfl) (pe_bm PySem.F.plainAttrs_str PySem.F.slot_str_partition PySem.F.type_str_partition mt_partition (pv 0) (pa_cons pe_str pa_nil)))
      (pss_one (ps_ret (pe_tup (pa_cons (pe_ix ix_tup (pv 1) pe_int (fun _ _ => rfl)) (pa_cons (pe_ix ix_tup (pe_fn f_read_rule (hr.mono (by first | decide | omega)) (by rfl) (pa_cons (pe_ix ix_tup (pv 1) pe_int (fun _ _ => rfl)) (pa_cons pe_int (pa_cons (pe_glob (v := .int 10) (by rfl) gMR ⟨_, rfl⟩) pa_nil)))) pe_int (fun _ _ => rfl)) pa_nil)))))), ?_⟩
    try dsimp only [cxOf, Cx.nox, Cx.wish]
    rw [show L2.start ["text", "parts"] [V.str (mk (gT g))] = [some (.str (mk (gT g))), none] from rfl]
    repeat walk_at "vc"
    refine ⟨i_tyS, ?_⟩
    repeat walk_at "vc"
    obtain ⟨t, ho⟩ := occ_first_at (x := mk (gT g)) (c := 61) (p := g.1.cps.toList) (R := rT g.2) rfl (low_out l1 (.inl (by decide)))
    have e0 : ("=" : Str) = ⟨#[61]⟩ := by decide +kernel
    refine ⟨mk (gT g), "=", g.1.cps.toList.length, t, rfl, rfl, by decide +kernel, by rw [mk_len]; omega, by rw [e0]; exact ho, fun p hp => ?_⟩
    have e1 : Builtin.Str.strSub (mk (gT g)) 0 g.1.cps.toList.length = g.1 := (sub_pre g.1.cps.toList (rT g.2) 61).trans (mk_ext rfl).symm
    have e2 : Builtin.Str.strSub (mk (gT g)) (g.1.cps.toList.length + ("=" : Str).length) (mk (gT g)).length = mk (rT g.2) := sub_suf g.1.cps.toList (rT g.2) 61
    rw [e1, e2]
    generalize hE : upd H p _ = H1
    obtain ⟨S1, q1⟩ := upd_pair hp hE
    clear hE
    repeat walk_at "vc"
    refine ⟨mk (rT g.2), [], [], g.2, 10, rfl, by rw [List.append_nil]; rfl, l2, (fun c h => by cases h), hd, by omega, by omega, by rw [mk_len]; have := rT_small l2 hd; omega, fun a v H2 S2 ha hv => ?_⟩
    repeat walk_at "vc"
    refine ⟨by show 2 ≤ _; omega, fun p2 hp2 => ?_⟩
    generalize hE : upd H2 p2 _ = H3
    obtain ⟨S3, q3⟩ := upd_pair hp2 hE
    clear hE
    exact q p2 v H3 (S1.trans (S2.trans S3)) q3 (hv.mono (Same.tups S3))
theorem sc_read_net : FnScope ["text", "parts", "net"] ["text"] (defScope (top 28)) := ⟨rfl, rfl, rfl, by decide +kernel, rfl, by decide +kernel, by decide +kernel⟩
theorem ok_readn {f : Addr} {fd : FuncData} (Fu : Fun K "read_net" "read_net" (top 28) f fd) (T : Txt K mg TT) (f_read_inputs : Fn P w K mg base "read_inputs" ["text"] 1 spReadI) (f_read_gate : Fn P w K mg base "read_gate" ["text"] 22 spReadG) (f_is_net : Fn P w K mg base "is_net" ["thing"] 11 spIsNet) (f_show_net : Fn P w K mg base "show_net" ["net"] 11 spShowN) : FnOk P w K mg base CX0 23 f fd ["text"] spReadN := by
  have S := sc_read_net
  refine Fu.ok S (fun vs H Q E h => ?_) (fun cdv A outer s H vs Q E hr h => ?_)
  · obtain ⟨ins, gs, rfl, _⟩ := h
    rfl
  · obtain ⟨ins, gs, rfl, ok, isn, q⟩ := h
    have big : 1000000 < sizeLine := by decide
    have nl := nT_len ok
    have o := ok.low1
    have i4 := ok.i4
    have g7 := ok.g7
    refine' ⟨?_, (pss_cons (ps_if ?h0 pss_never pss_nil) (pss_cons ?h1 (pss_cons ?h2 (pss_cons (ps_if ?h3 pss_never pss_nil) (pss_one ?h4))))), ?_⟩
    case h0 => exact (pt_not (pt_val (pe_callB call_isinst (by rfl) T.n_isinstance PyProof.Rows.boot_isinstance (pa_cons (pv 0) (pa_cons (pe_bltn (v := .ty "str") (by rfl) T.n_str PyProof.Rows.boot_str rfl) pa_nil)))))
    case h1 =>
      refine' ps_set (i := 1) ?n ?r ?l ?e ?s ?f
      case n => exact S.nd
      case r => rfl
      case l => first | exact Or.inl rfl | exact Or.inr rfl
      case s => rfl
      case f => first | exact Or.inl rfl | exact Or.inr rfl
      case e => exact (pe_bm PySem.F.plainAttrs_str PySem.F.slot_str_split PySem.F.type_str_split mt_split (pv 0) (pa_cons pe_str pa_nil))
    case h2 =>
      refine' ps_set (i := 2) ?n ?r ?l ?e ?s ?f
      case n => exact S.nd
      case r => rfl
      case l => first | exact Or.inl rfl | exact Or.inr rfl
      case s => rfl
      case f => first | exact Or.inl rfl | exact Or.inr rfl
      case e => exact (pe_tup (pa_cons (pe_fn f_read_inputs (hr.mono (by first | decide | omega)) (by rfl) (pa_cons (pe_ix ix_list (pv 1) pe_int (fun _ _ => rfl)) pa_nil)) (pa_cons (pe_lc (tgs := ["part"]) (cap := []) rfl ⟨rfl, rfl, rfl, rfl, rfl, rfl⟩ (pi_list (pe_slice sl_list (pv 1) (po_some pe_int) po_none)) (fun _ _ _ _ => (pg_name (i := 0) (show List.Nodup [("part" : Str)] by decide +kernel) rfl (by first | exact Or.inl rfl | exact Or.inr rfl))) (fun _ _ _ _ => pifs_nil) (fun _ _ _ _ => (pe_fn f_read_gate (hr.mono (by first | decide | omega)) (by rfl) (pa_cons (pv 0) pa_nil)))) pa_nil)))
    case h3 => exact (PW.pt (pw_or (pt_not (pt_val (pe_fn f_is_net (hr.mono (by first | decide | omega)) (by rfl) (pa_cons (pv 2) pa_nil)))) (pw_or1 (pt_cmpR op_ne (pe_fn f_show_net (hr.mono (by first | decide | omega)) (by rfl) (pa_cons (pv 2) pa_nil)) (pv 0) (nomark _)))))
    case h4 => exact (ps_ret (pv 2))
    try dsimp only [cxOf, Cx.nox, Cx.wish]
    rw [show L2.start ["text", "parts", "net"] [V.str (mk (nT ins gs))] = [some (.str (mk (nT ins gs))), none, none] from rfl]
    repeat walk_at "vc"
    refine ⟨_, _, _, _, rfl, TyOf.str _, kit_same "str", ?_⟩
    refine ⟨_, rfl, iteF ?_⟩
    repeat walk_at "vc"
    refine ⟨i_tyS, ?_⟩
    repeat walk_at "vc"
    refine ⟨_, _, rfl, rfl, by decide +kernel, by rw [mk_len]; omega, fun p hp => ?_⟩
    generalize hE : upd H p _ = H1
    obtain ⟨S1, q1⟩ := upd_pair hp hE
    clear hE
    have q1 : H1 p = some (.lst ((mk (iT ins) :: gs.map fun g => mk (gT g)).map V.str)) := by rw [q1]; exact congrArg (fun l : List Str => some (HO.lst (l.map V.str))) (nT_split ok)
    rw [List.map_cons, List.map_map] at q1
    repeat walk_at "vc"
    refine i_ixL (SqL.of q1) (atI_nat (j := 0) rfl) ?_
    repeat walk_at "vc"
    refine ⟨ins, rfl, i4, o.1, fun li H2 S2 nli hli => ?_⟩
    have q2 := S2 _ _ q1
    refine i_comp ?_
    repeat walk_at "vc"
    refine i_slL (SqL.of q2) fun p3 hp3 => ?_
    rw [cut_one]
    generalize hE : upd H2 p3 _ = H3
    obtain ⟨S3, q3⟩ := upd_pair hp3 hE
    clear hE
    refine ⟨p3, rfl, ⟨_, SqL.of q3⟩, fun D hD => ?_⟩
    refine comp_list (xs := gs.map (V.str ∘ fun g => mk (gT g))) (fun m H' ys => Same H3 H' ∧ H' D = some (.lst ys) ∧ Paired (GAt H') ys (gs.take m)) ⟨fresh_same hD, upd_same, .nil⟩ (fun m H' ys p => ⟨p.2.1, SqL.of (p.1 _ _ q3)⟩) (fun m x H' ys e p => ?_) (fun H' ys p => ?_)
    · obtain ⟨Sm, hd, pr⟩ := p
      have hn : m < (gs.map (V.str ∘ fun g => mk (gT g))).length := (List.getElem?_eq_some_iff.mp e).1
      rw [List.getElem?_map] at e
      obtain ⟨g, eg, rfl⟩ : ∃ g, gs[m]? = some g ∧ V.str (mk (gT g)) = x := by
        cases h : gs[m]? with
        | none => rw [h] at e; cases e
        | some g => rw [h] at e; exact ⟨g, rfl, Option.some.inj e⟩
      obtain ⟨o1, o2, o3⟩ := o.2 g (List.mem_of_getElem? eg)
      refine s_name ⟨trivial, i_yes (iteT ?_)⟩
      refine i_call (i_cons (i_var rfl (i_nil ⟨g, rfl, o1, o2, o3, fun a v H4 S4 ha hv => ?_⟩)))
      have pl := paired_len pr
      refine NextC.mk (S4 _ _ hd) hn (by rw [pl, List.length_take]; omega) ⟨same_upd (Sm.trans S4) hD, upd_same, ?_⟩
      have eD : KeepT H4 (upd H4 D (HO.lst (ys ++ [V.ref a]))) := fun b xs e => by rw [upd_ne]; exact e; intro z; subst z; rw [S4 _ _ hd] at e; cases e
      rw [List.take_succ, eg]
      exact paired_snoc (gates_mono eD (gates_mono (Same.tups S4) pr)) (GAt.mono eD ⟨a, v, rfl, ha, hv⟩)
    · obtain ⟨Sm, hd, pr⟩ := p
      rw [List.length_map, List.take_length] at pr
      have pl := paired_len pr
      have HD : H D = none := Same.free (S1.trans (S2.trans S3)) hD
      have HL : H li = none := Same.free S1 nli
      have hli' := (S3.trans Sm) _ _ hli
      have nLD : li ≠ D := fun z => by subst z; rw [S3 _ _ hli] at hD; cases hD
      repeat walk_at "vc"
      refine ⟨by show 2 ≤ _; omega, fun p5 hp5 => ?_⟩
      generalize hE : upd H' p5 _ = H5
      obtain ⟨S5, q5⟩ := upd_pair hp5 hE
      clear hE
      have NA : NAt H5 p5 li D ins ys gs := ⟨q5, S5 _ _ hli', S5 _ _ hd, gates_mono (Same.tups S5) pr⟩
      have S05 : Same H H5 := S1.trans (S2.trans (S3.trans (Sm.trans S5)))
      have HP : H p5 = none := Same.free (S1.trans (S2.trans (S3.trans Sm))) hp5
      repeat walk_at "vc"
      refine ⟨p5, li, D, ins, ys, gs, rfl, NA, ok, fun H6 S6 => ?_⟩
      rw [decide_eq_true isn]
      refine ⟨_, rfl, iteF ?_⟩
      repeat walk_at "vc"
      refine ⟨p5, li, D, ins, ys, gs, rfl, NA.same S6, ok, fun H7 S7 => ?_⟩
      repeat walk_at "vc"
      refine ifF (by simp) ?_
      repeat walk_at "vc"
      exact q p5 li D ys H7 (S05.trans (S6.trans S7)) HP HL HD nLD ((NA.same S6).same S7)
end
set_option Elab.async false
set_option linter.all false
set_option maxRecDepth 100000
set_option maxHeartbeats 4000000

noncomputable def spCellAt (K : PySem.W.Frag) : Sp := fun vs H Q _ => ∃ (s : Addr) (ns : List Int) (k : Nat), vs = [.ref s, .int (k : Int)] ∧ SqL K H s (ns.map V.int) ∧ k ≤ 100 ∧ ∀ (c : Int), Q (.int c) H
noncomputable def spNums : Sp := fun vs H Q _ => ∃ (c : Int) (m : Nat), vs = [.int c, .int (m : Nat)] ∧ m ≤ 1000 ∧ ∀ l (xs : List Int) H', Same H H' → H l = none → H' l = some (.lst (xs.map V.int)) → Q (.ref l) H'
theorem i_bm0 {K : PySem.W.Frag} {T : String} {r : V → List V → Hp → VK → Prop} {to : TE} {σ : St} {H : Hp} {Q : VK} (q : to σ H fun x H1 => tyV K T x H1 ∧ r x [] H1 Q) : tBM0 K T r to σ H Q := q
section
variable {P : Program} {w : World} {K : PySem.W.Frag} {mg : Str → Option Value} {base : Heap} {TT : Addr}
theorem sc_law_cell_at : FnScope ["script", "k"] ["script", "k"] (defScope (top 30)) := ⟨rfl, rfl, rfl, by decide +kernel, rfl, by decide +kernel, by decide +kernel⟩
theorem ok_cellat {f : Addr} {fd : FuncData} (Fu : Fun K "_law_cell_at" "_law_cell_at" (top 30) f fd) (T : Txt K mg TT) : FnOk P w K mg base CX0 1 f fd ["script", "k"] (spCellAt K) := by
  have S := sc_law_cell_at
  refine Fu.ok S (fun vs H Q E h => ?_) (fun cdv A outer s H vs Q E hr h => ?_)
  · obtain ⟨s, ns, k, rfl, _⟩ := h
    rfl
  · obtain ⟨s, ns, k, rfl, hS, k100, q⟩ := h
    refine ⟨_, (pss_cons (ps_if (pt_cmpR op_lt (pv 1) (pe_callB call_len_seq (by rfl) T.n_len PySem.boot_len (pa_cons (pv 0) pa_nil)) (nomark _)) (pss_one (ps_ret (pe_ix ix_list (pv 0) (pv 1) (fun _ _ => rfl)))) pss_nil)
      (pss_one (ps_ret pe_int))), ?_⟩
    try dsimp only [cxOf, Cx.nox, Cx.wish]
    rw [show L2.start ["script", "k"] [V.ref s, V.int (k : Int)] = [some (.ref s), some (.int (k : Int))] from rfl]
    repeat walk_at "vc"
    refine ⟨_, _, rfl, Or.inl hS, ?_⟩
    repeat walk_at "vc"
    rw [List.length_map]
    by_cases c : k < ns.length
    · refine ifT (decide_eq_true (by omega)) ?_
      repeat walk_at "vc"
      refine i_ixL (v := .int ns[k]) hS (atI_nat (by rw [List.getElem?_map, List.getElem?_eq_getElem c]; rfl)) ?_
      exact q _
    · refine ifF (decide_eq_false (by omega)) ?_
      repeat walk_at "vc"
      exact q _
theorem sc_law_numbers : FnScope ["cell", "many", "found", "rest", "stir", "k", "again"] ["cell", "many"] (defScope (top 31)) := ⟨rfl, rfl, rfl, by decide +kernel, rfl, by decide +kernel, by decide +kernel⟩
theorem ok_nums {f : Addr} {fd : FuncData} (Fu : Fun K "_law_numbers" "_law_numbers" (top 31) f fd) (T : Txt K mg TT) : FnOk P w K mg base CX0 1 f fd ["cell", "many"] spNums := by
  have S := sc_law_numbers
  refine Fu.ok S (fun vs H Q E h => ?_) (fun cdv A outer s H vs Q E hr h => ?_)
  · obtain ⟨c, m, rfl, _⟩ := h
    rfl
  · obtain ⟨c, m, rfl, m1, q⟩ := h
    have big : 1000000 < sizeLine := by decide
    refine' ⟨?_, (pss_cons ?h0 (pss_cons ?h1 (pss_cons ?h2 (pss_cons (ps_for PassesOwn.never rfl ?h3 ?h4 (pss_one (ps_if ?h5 (pss_cons ?h6 (pss_one ?h7)) (pss_cons ?h8 (pss_cons ?h9 (pss_one ?h10)))))) (pss_one ?h11))))), ?_⟩
    case h0 =>
      refine' ps_set (i := 2) ?n ?r ?l ?e ?s ?f
      case n => exact S.nd
      case r => rfl
      case l => first | exact Or.inl rfl | exact Or.inr rfl
      case s => rfl
      case f => first | exact Or.inl rfl | exact Or.inr rfl
      case e => exact (pe_lst pa_nil)
    case h1 =>
      refine' ps_set (i := 3) ?n ?r ?l ?e ?s ?f
      case n => exact S.nd
      case r => rfl
      case l => first | exact Or.inl rfl | exact Or.inr rfl
      case s => rfl
      case f => first | exact Or.inl rfl | exact Or.inr rfl
      case e => exact (pv 0)
    case h2 =>
      refine' ps_set (i := 4) ?n ?r ?l ?e ?s ?f
      case n => exact S.nd
      case r => rfl
      case l => first | exact Or.inl rfl | exact Or.inr rfl
      case s => rfl
      case f => first | exact Or.inl rfl | exact Or.inr rfl
      case e => exact (pe_op op_mod (pv 0) pe_int)
    case h3 => exact (pi_range1 (by rfl) T.n_range (pa_cons (pv 1) pa_nil))
    case h4 => exact (pg_name (i := 5) S.nd rfl (by first | exact Or.inl rfl | exact Or.inr rfl))
    case h5 => exact (PW.pt (pw_and (pt_cmpR op_ge (pv 0) (pe_op op_pow pe_int pe_int) (nomark _)) (pw_and1 (pt_cmpR op_gt (pv 3) pe_int (nomark _)))))
    case h6 => exact (ps_expr (pe_bm PySem.F.plainAttrs_list PySem.F.slot_list_append PySem.F.type_list_append mt_append (pv 2) (pa_cons (pe_op op_mod (pv 3) pe_int) pa_nil)))
    case h7 =>
      refine' ps_set (i := 3) ?n ?r ?l ?e ?s ?f
      case n => exact S.nd
      case r => rfl
      case l => first | exact Or.inl rfl | exact Or.inr rfl
      case s => rfl
      case f => first | exact Or.inl rfl | exact Or.inr rfl
      case e => exact (pe_op op_fdiv (pv 3) pe_int)
    case h8 =>
      refine' ps_set (i := 4) ?n ?r ?l ?e ?s ?f
      case n => exact S.nd
      case r => rfl
      case l => first | exact Or.inl rfl | exact Or.inr rfl
      case s => rfl
      case f => first | exact Or.inl rfl | exact Or.inr rfl
      case e => exact (pe_op op_mod (pe_op op_mul (pe_op op_add (pe_op op_add (pv 4) (pe_op op_mul pe_int (pv 5))) pe_int) pe_int) pe_int)
    case h9 =>
      refine' ps_set (i := 6) ?n ?r ?l ?e ?s ?f
      case n => exact S.nd
      case r => rfl
      case l => first | exact Or.inl rfl | exact Or.inr rfl
      case s => rfl
      case f => first | exact Or.inl rfl | exact Or.inr rfl
      case e => exact (pe_op op_mod (pe_op op_mul (pe_op op_mod (pe_op op_mul (pv 4) (pv 4)) pe_int) pe_int) pe_int)
    case h10 => exact (ps_expr (pe_bm PySem.F.plainAttrs_list PySem.F.slot_list_append PySem.F.type_list_append mt_append (pv 2) (pa_cons (pe_op op_mod (pe_op op_fdiv (pv 6) pe_int) pe_int) pa_nil)))
    case h11 => exact (ps_ret (pv 2))
    try dsimp only [cxOf, Cx.nox, Cx.wish]
    rw [show L2.start ["cell", "many", "found", "rest", "stir", "k", "again"] [V.int c, V.int (m : Nat)] = [some (.int c), some (.int (m : Nat)), none, none, none, none, none] from rfl]
    repeat walk_at "vc"
    refine ⟨by show 0 ≤ _; omega, fun p hp => ?_⟩
    generalize hE : upd H p _ = H1
    obtain ⟨S1, q1⟩ := upd_pair hp hE
    clear hE
    repeat walk_at "vc"
    refine ⟨by omega, by omega, ?_⟩
    rw [Int.toNat_natCast]
    have s0 : 0 ≤ c % 2147483647 := Int.emod_nonneg _ (by decide)
    have s1 : c % 2147483647 < 2147483647 := Int.emod_lt_of_pos _ (by decide)
    generalize c % 2147483647 = st at s0 s1
    refine for_range (n := m) (fun i σ H' => ∃ (rs st : Int) (xs : List Int), ∃ x5 x6, σ = [some (.int c), some (.int (m : Nat)), some (.ref p), some (.int rs), some (.int st), x5, x6] ∧ 0 ≤ st ∧ st < 2147483647 ∧ Same H H' ∧ H' p = some (.lst (xs.map V.int)) ∧ xs.length = i) ⟨c, st, [], _, _, rfl, s0, s1, S1, q1, rfl⟩ (fun i σ H' hi pv => ?_) (fun σ H' pv => ?_)
    · obtain ⟨rs, st, xs, x5, x6, rfl, s0, s1, S2, q2, hl⟩ := pv
      refine s_name ?_
      have els : tSeq (tAsg (tOp (rI (fun x j => 0 < j) fun i j => V.int (i % j)) (tOp (rI CMul fun i j => V.int (i * j)) (tOp (rI0 fun i j => V.int (i + j)) (tOp (rI0 fun i j => V.int (i + j)) (tVar 4) (tOp (rI CMul fun i j => V.int (i * j)) (tC (V.int 7)) (tVar 5))) (tC (V.int 3))) (tC (V.int 48271))) (tC (V.int 2147483647))) (gName 4))
        (tSeq (tAsg (tOp (rI (fun x j => 0 < j) fun i j => V.int (i % j)) (tOp (rI CMul fun i j => V.int (i * j)) (tOp (rI (fun x j => 0 < j) fun i j => V.int (i % j)) (tOp (rI CMul fun i j => V.int (i * j)) (tVar 4) (tVar 4)) (tC (V.int 2147483629))) (tC (V.int 69621))) (tC (V.int 2147483587))) (gName 6))
          (tDrop (tBM K "list" rAppend (tVar 2) (tCons (tOp (rI (fun x j => 0 < j) fun i j => V.int (i % j)) (tOp (rI CDiv fun i j => V.int (i / j)) (tVar 6) (tC (V.int 8))) (tC (V.int 720720))) tNil))))
        { nx := fun σ H' => ∃ (rs st : Int) (xs : List Int), ∃ x5 x6, σ = [some (.int c), some (.int (m : Nat)), some (.ref p), some (.int rs), some (.int st), x5, x6] ∧ 0 ≤ st ∧ st < 2147483647 ∧ Same H H' ∧ H' p = some (.lst (xs.map V.int)) ∧ xs.length = i + 1, rt := Q, ct := fun σ H' => ∃ (rs st : Int) (xs : List Int), ∃ x5 x6, σ = [some (.int c), some (.int (m : Nat)), some (.ref p), some (.int rs), some (.int st), x5, x6] ∧ 0 ≤ st ∧ st < 2147483647 ∧ Same H H' ∧ H' p = some (.lst (xs.map V.int)) ∧ xs.length = i + 1, bk := tRet (tVar 2) { nx := fun _ H' => Q .non H', rt := Q } }
        [some (.int c), some (.int (m : Nat)), some (.ref p), some (.int rs), some (.int st), some (.int (0 + (i : Nat))), x6] H' := by
        repeat walk_at "vc"
        generalize he : (st + 7 * (0 + (i : Int)) + 3) * 48271 % 2147483647 = s2
        have t0 : 0 ≤ s2 := by rw [← he]; exact Int.emod_nonneg _ (by decide)
        have t1 : s2 < 2147483647 := by rw [← he]; exact Int.emod_lt_of_pos _ (by decide)
        try (refine i_rI (Or.inl ⟨by omega, by omega⟩) ?_)
        repeat walk_at "vc"
        refine i_app q2 (by rw [List.length_map]; omega) ?_
        refine ⟨_, _, xs ++ [_], _, _, rfl, t0, t1, same_upd S2 hp, by rw [upd_same, List.map_append]; rfl, by simp [hl]⟩
      repeat walk_at "vc"
      refine ite2 (fun _ => ?_) (fun _ => ?_)
      · repeat walk_at "vc"
        refine ite2 (fun _ => ?_) (fun _ => ?_)
        · repeat walk_at "vc"
          refine i_app q2 (by rw [List.length_map]; omega) ?_
          repeat walk_at "vc"
          refine ⟨_, _, xs ++ [_], _, _, rfl, s0, s1, same_upd S2 hp, by rw [upd_same, List.map_append]; rfl, by simp [hl]⟩
        · first | exact els | exact iteF els
      · first | exact els | exact iteF els
    · obtain ⟨rs, st, xs, x5, x6, rfl, s0, s1, S2, q2, hl⟩ := pv
      repeat walk_at "vc"
      exact q p xs H' S2 hp q2
theorem sc_law_deck : FnScope ["cell", "many"] ["cell", "many"] (defScope (top 32)) := ⟨rfl, rfl, rfl, by decide +kernel, rfl, by decide +kernel, by decide +kernel⟩
theorem ok_deck {f : Addr} {fd : FuncData} (Fu : Fun K "_law_deck" "_law_deck" (top 32) f fd) (T : Txt K mg TT) (f_law_numbers : Fn P w K mg base "_law_numbers" ["cell", "many"] 1 spNums) : FnOk P w K mg base CX0 2 f fd ["cell", "many"] spNums := by
  have S := sc_law_deck
  refine Fu.ok S (fun vs H Q E h => ?_) (fun cdv A outer s H vs Q E hr h => ?_)
  · obtain ⟨c, m, rfl, _⟩ := h
    rfl
  · obtain ⟨c, m, rfl, m1, q⟩ := h
    refine ⟨_, (pss_one (ps_ret (pe_rev (pe_fn f_law_numbers (hr.mono (by first | decide | omega)) (by rfl) (pa_cons (pv 0) (pa_cons (pv 1) pa_nil))) (pe_un un_neg pe_int) (fun _ _ _ q => ⟨1, rfl, q⟩)))), ?_⟩
    try dsimp only [cxOf, Cx.nox, Cx.wish]
    rw [show L2.start ["cell", "many"] [V.int c, V.int (m : Nat)] = [some (.int c), some (.int (m : Nat))] from rfl]
    refine s_ret ?_
    show tCall spNums [] E0 _ _ _ _
    repeat walk_at "vc"
    refine ⟨c, m, rfl, m1, fun l xs H1 S1 hl h1 => ⟨l, _, rfl, SqL.of h1, fun p hp => ?_⟩⟩
    refine q p xs.reverse _ (S1.trans (fresh_same hp)) (Same.free S1 hp) ?_
    rw [upd_same, List.map_reverse]
theorem sc_law_take : FnScope ["deck", "many"] ["deck", "many"] (defScope (top 33)) := ⟨rfl, rfl, rfl, by decide +kernel, rfl, by decide +kernel, by decide +kernel⟩
theorem ok_take {f : Addr} {fd : FuncData} (Fu : Fun K "_law_take" "_law_take" (top 33) f fd) (T : Txt K mg TT) : FnOk P w K mg base CX0 1 f fd ["deck", "many"] spDraw := by
  have S := sc_law_take
  refine Fu.ok S (fun vs H Q E h => ?_) (fun cdv A outer s H vs Q E hr h => ?_)
  · obtain ⟨D, m, rfl, _⟩ := h
    rfl
  · obtain ⟨D, m, rfl, DA, h1, h2, k⟩ := h
    obtain ⟨xs, hd⟩ := id DA
    refine ⟨_, (pss_cons (ps_if (pt_cmpR (op_eqL hr.units) (pv 0) (pe_lst pa_nil) (nomark _)) (pss_one (ps_ret pe_int)) pss_nil)
      (pss_one (ps_ret (pe_op op_mod (pe_bm0 PySem.F.plainAttrs_list PySem.F.slot_list_pop PySem.F.type_list_pop mt_pop (pv 0)) (pv 1))))), ?_⟩
    try dsimp only [cxOf, Cx.nox, Cx.wish]
    rw [show L2.start ["deck", "many"] [.ref D.d, .int m] = [some (.ref D.d), some (.int m)] from rfl]
    repeat walk_at "vc"
    refine ⟨by decide, fun p hp => ?_⟩
    generalize hE : upd H p _ = H1
    obtain ⟨S1, q1⟩ := upd_pair hp hE
    clear hE
    have hd1 := S1 _ _ hd
    have k1 : Kp D H H1 := Kp.of DA S1
    refine ⟨D.d, p, _, _, fun _ => true, rfl, rfl, SqL.of hd1, SqL.of q1, fun j x y e1 e2 => by simp at e2, ?_⟩
    refine ⟨_, rfl, ?_⟩
    cases xs with
    | nil =>
      refine ifT rfl ?_
      repeat walk_at "vc"
      exact k 0 H1 (by omega) (by omega) k1
    | cons x r =>
      refine ifF (by simp) ?_
      repeat walk_at "vc"
      refine i_bm0 (i_var rfl ⟨i_tyL hd1, ?_⟩)
      obtain ⟨y, hy⟩ : ∃ y, ((x :: r).map V.int)[((x :: r).map V.int).length - 1]? = some (V.int y) := by
        have hl : (x :: r).length - 1 < (x :: r).length := by simp
        exact ⟨(x :: r)[(x :: r).length - 1], by rw [List.length_map, List.getElem?_map, List.getElem?_eq_getElem hl]; rfl⟩
      refine ⟨D.d, _, _, rfl, rfl, hd1, hy, ?_⟩
      repeat walk_at "vc"
      refine i_rI (show (0 : Int) < m by omega) ?_
      refine k _ _ (Int.emod_nonneg _ (by omega)) (Int.emod_lt_of_pos _ (by omega)) ⟨fun b o e nb => by rw [upd_ne nb]; exact k1.old b o e nb, ⟨(x :: r).dropLast, by rw [upd_same, List.map_dropLast]⟩⟩
end
set_option Elab.async false
set_option linter.all false
set_option maxRecDepth 100000
set_option maxHeartbeats 4000000

noncomputable def spNamesW : Sp := fun vs H Q _ => ∃ (D : Dk) (m : Nat), vs = [.ref D.d, .int (m : Nat)] ∧ D.At H ∧ m ≤ 11 ∧ ∀ l (ns : List Str) H', ns.length = m → H l = none → H' l = some (.lst (ns.map V.str)) → ns.Nodup → (∀ n ∈ ns, Low n) → Kp D H H' → Q (.ref l) H'
theorem erase_map {α β : Type} (f : α → β) : ∀ (xs : List α) (k : Nat), (xs.map f).eraseIdx k = (xs.eraseIdx k).map f
  | [], _ => rfl
  | _ :: _, 0 => rfl
  | x :: xs, k + 1 => by
    rw [List.map_cons, List.eraseIdx_cons_succ, List.eraseIdx_cons_succ, List.map_cons, erase_map f xs k]
theorem perm_erase {α : Type} : ∀ (xs : List α) (k : Nat) (h : k < xs.length), (xs[k] :: xs.eraseIdx k).Perm xs
  | x :: xs, 0, _ => List.Perm.refl _
  | x :: xs, k + 1, h => by
    have ih := perm_erase xs k (by simpa using h)
    rw [List.eraseIdx_cons_succ]
    exact (List.Perm.swap x _ _).trans (ih.cons x)
theorem inV_str' {nm : Str} {ns : List Str} (h : inV (.str nm) (ns.map V.str) = false) : nm ∉ ns := fun m => by
  rw [inV_str.mpr m] at h
  cases h
theorem not_str {K : PySem.W.Frag} {H : Hp} {p : Addr} {z : Str} {ns : List Str} {Q : VK} (h : H p = some (.lst (ns.map V.str))) (q : ∀ b : Bool, (b = true → z ∉ ns) → Q (.bl b) H) : rIn K true (.str z) (.ref p) H Q := by
  refine ⟨p, _, rfl, .inl (SqL.of h), rfl, flat_strs ns, q _ fun e => ?_⟩
  exact inV_str' (by simpa using e)
structure NmS (D : Dk) (H H' : Hp) (lf nm : Addr) (ns ls : List Str) : Prop where
  kp : Kp D H H'
  l : H' lf = some (.lst (ls.map V.str))
  n : H' nm = some (.lst (ns.map V.str))
  nd : (ns ++ ls).Nodup
  low : ∀ z ∈ ns ++ ls, Low z
theorem NmS.draw {D : Dk} {H H' H2 : Hp} {lf nm : Addr} {ns ls : List Str} (h : NmS D H H' lf nm ns ls) (k : Kp D H' H2) (n1 : ¬ D.own lf) (n2 : ¬ D.own nm) : NmS D H H2 lf nm ns ls := ⟨h.kp.trans k, k.old _ _ h.l n1, k.old _ _ h.n n2, h.nd, h.low⟩
theorem NmS.new {D : Dk} {H H' : Hp} {lf nm : Addr} {ns ls : List Str} {p : Addr} {o : HO} (h : NmS D H H' lf nm ns ls) (hp : H' p = none) : NmS D H (upd H' p o) lf nm ns ls :=
  ⟨h.kp.new hp, by rw [upd_ne (ne_of_none h.l hp)]; exact h.l, by rw [upd_ne (ne_of_none h.n hp)]; exact h.n, h.nd, h.low⟩
structure WdOk (z : Str) (j : Nat) : Prop where
  len : z.length = j
  low : ∀ c ∈ z.cps.toList, 97 ≤ c ∧ c ≤ 122
theorem left_low : ∀ z ∈ (["req", "reqa", "reqb", "a", "ab", "b", "zzzzzzzz", "not", "and", "or", "wire", "out"] : List Str), Low z := by
  have h : ∀ z ∈ (["req", "reqa", "reqb", "a", "ab", "b", "zzzzzzzz", "not", "and", "or", "wire", "out"] : List Str), 1 ≤ z.length ∧ z.length ≤ 8 ∧ ∀ c ∈ z.cps.toList, 97 ≤ c ∧ c ≤ 122 := by decide +kernel
  exact fun z hz => ⟨(h z hz).1, (h z hz).2.1, (h z hz).2.2⟩
section
variable {P : Program} {w : World} {K : PySem.W.Frag} {mg : Str → Option Value} {base : Heap} {TT : Addr}
theorem sc_law_wire_names : FnScope ["deck", "many", "left", "names", "k", "word", "turn"] ["deck", "many"] (defScope (top 34)) := ⟨rfl, rfl, rfl, by decide +kernel, rfl, by decide +kernel, by decide +kernel⟩
theorem ok_namesW {f : Addr} {fd : FuncData} (Fu : Fun K "_law_wire_names" "_law_wire_names" (top 34) f fd) (T : Txt K mg TT) (f_law_take : Fn P w K mg base "_law_take" ["deck", "many"] 1 spDraw) : FnOk P w K mg base CX0 2 f fd ["deck", "many"] spNamesW := by
  have S := sc_law_wire_names
  refine Fu.ok S (fun vs H Q E h => ?_) (fun cdv A outer s H vs Q E hr h => ?_)
  · obtain ⟨D, m, rfl, _⟩ := h
    rfl
  · obtain ⟨D, m, rfl, DA, m11, k⟩ := h
    have big : 1000000 < sizeLine := by decide
    refine' ⟨?_, ?bb, ?_⟩
    case bb =>
      refine' pss_cons ?s1 ?r1
      case s1 =>
        refine' ps_set (i := 2) ?n ?r ?l ?e ?s ?f
        case n => exact S.nd
        case r => rfl
        case l => first | exact Or.inl rfl | exact Or.inr rfl
        case s => rfl
        case f => first | exact Or.inl rfl | exact Or.inr rfl
        case e =>
          refine' (pe_lst ?L2)
          case L2 => (repeat' (with_reducible refine' pa_cons pe_str ?_ se_con)); (all_goals (try exact pa_nil))
      case r1 =>
        with_reducible refine' pss_cons ?s4 ?r4
        case s4 =>
          refine' ps_set (i := 3) ?n ?r ?l ?e ?s ?f
          case n => exact S.nd
          case r => rfl
          case l => first | exact Or.inl rfl | exact Or.inr rfl
          case s => rfl
          case f => first | exact Or.inl rfl | exact Or.inr rfl
          case e => exact (pe_lst pa_nil)
        case r4 =>
          with_reducible refine' pss_cons ?s6 ?r6
          case s6 =>
            refine' ps_for PassesOwn.never rfl ?i7 ?g7 ?b7 ?h7
            case h7 => intro _; rfl
            case i7 => exact (pi_range1 (by rfl) T.n_range (pa_cons (pv 1) pa_nil))
            case g7 => exact (pg_name (i := 4) S.nd rfl (by first | exact Or.inl rfl | exact Or.inr rfl))
            case b7 =>
              with_reducible refine' pss_cons ?s8 ?r8
              case s8 =>
                exact (ps_expr (pe_bm PySem.F.plainAttrs_list PySem.F.slot_list_append PySem.F.type_list_append mt_append (pv 3) (pa_cons (pe_bm PySem.F.plainAttrs_list PySem.F.slot_list_pop PySem.F.type_list_pop mt_popAt (pv 2) (pa_cons (pe_fn f_law_take (hr.mono (by first | decide | omega)) (by rfl) (pa_cons (pv 0) (pa_cons (pe_callB call_len_seq (by rfl) T.n_len PySem.boot_len (pa_cons (pv 2) pa_nil)) pa_nil))) pa_nil)) pa_nil)))
              case r8 =>
                with_reducible refine' pss_cons ?s10 ?r10
                case s10 =>
                  refine' ps_set (i := 5) ?n ?r ?l ?e ?s ?f
                  case n => exact S.nd
                  case r => rfl
                  case l => first | exact Or.inl rfl | exact Or.inr rfl
                  case s => rfl
                  case f => first | exact Or.inl rfl | exact Or.inr rfl
                  case e => exact pe_str
                case r10 =>
                  with_reducible refine' pss_cons ?s12 ?r12
                  case s12 =>
                    refine' ps_for PassesOwn.never rfl ?i13 ?g13 ?b13 ?h13
                    case h13 => intro _; rfl
                    case i13 => exact (pi_range1 (by rfl) T.n_range (pa_cons (pe_op op_mul (pe_fn f_law_take (hr.mono (by first | decide | omega)) (by rfl) (pa_cons (pv 0) (pa_cons pe_int pa_nil))) (pe_callTy call_int1 (by rfl) T.n_int PyProof.Rows.boot_int (pa_cons (pe_cmpR op_eq (pe_fn f_law_take (hr.mono (by first | decide | omega)) (by rfl) (pa_cons (pv 0) (pa_cons pe_int pa_nil))) pe_int (nomark _)) pa_nil))) pa_nil))
                    case g13 => exact (pg_name (i := 6) S.nd rfl (by first | exact Or.inl rfl | exact Or.inr rfl))
                    case b13 =>
                      with_reducible refine' pss_one ?s14
                      case s14 =>
                        refine' ps_set (i := 5) ?n ?r ?l ?e ?s ?f
                        case n => exact S.nd
                        case r => rfl
                        case l => first | exact Or.inl rfl | exact Or.inr rfl
                        case s => rfl
                        case f => first | exact Or.inl rfl | exact Or.inr rfl
                        case e => exact (pe_op op_add_str (pv 5) (pe_ix ix_str pe_str (pe_fn f_law_take (hr.mono (by first | decide | omega)) (by rfl) (pa_cons (pv 0) (pa_cons pe_int pa_nil))) (fun _ _ => rfl)))
                  case r12 =>
                    with_reducible refine' pss_one ?s16
                    case s16 =>
                      with_reducible refine' ps_if ?c17 ?a17 ?o17
                      case c17 => exact (pt_cmpR op_notIn_seq (pv 5) (pe_op op_cat (pe_op op_cat (pv 3) (pv 2)) (pe_lst (pa_cons pe_str (pa_cons pe_str (pa_cons pe_str (pa_cons pe_str (pa_cons pe_str pa_nil))))))) rfl)
                      case a17 =>
                        with_reducible refine' pss_one ?s18
                        case s18 =>
                          exact (ps_asg (pv 5) (pg_sub (pv 3) (pe_un un_neg pe_int) set_list))
                      case o17 =>
                        exact pss_nil
          case r6 =>
            with_reducible refine' pss_one ?s20
            case s20 =>
              exact (ps_ret (pv 3))
    try dsimp only [cxOf, Cx.nox, Cx.wish]
    rw [show L2.start ["deck", "many", "left", "names", "k", "word", "turn"] [V.ref D.d, V.int (m : Nat)] = [some (.ref D.d), some (.int (m : Nat)), none, none, none, none, none] from rfl]
    repeat walk_at "vc"
    refine ⟨by show 12 ≤ _; omega, fun lf hlf => ?_⟩
    generalize hE : upd H lf _ = H1
    obtain ⟨S1, q1⟩ := upd_pair hlf hE
    clear hE
    have q1' : H1 lf = some (.lst ((["req", "reqa", "reqb", "a", "ab", "b", "zzzzzzzz", "not", "and", "or", "wire", "out"] : List Str).map V.str)) := q1
    clear q1
    repeat walk_at "vc"
    refine ⟨by show 0 ≤ _; omega, fun nm hnm => ?_⟩
    generalize hE : upd H1 nm _ = H2
    obtain ⟨S2, q2⟩ := upd_pair hnm hE
    clear hE
    have n1 : ¬ D.own lf := notOwn_fresh DA hlf
    have Hnm : H nm = none := Same.free S1 hnm
    have n2 : ¬ D.own nm := notOwn_fresh DA Hnm
    have nln : lf ≠ nm := ne_of_none q1' hnm
    have N0 : NmS D H H2 lf nm [] ["req", "reqa", "reqb", "a", "ab", "b", "zzzzzzzz", "not", "and", "or", "wire", "out"] := ⟨Kp.of DA (S1.trans S2), S2 _ _ q1', q2, by decide +kernel, left_low⟩
    clear q1' q2
    repeat walk_at "vc"
    refine ⟨by omega, by omega, ?_⟩
    rw [Int.toNat_natCast]
    refine for_range (n := m) (fun i σ H' => ∃ (ns ls : List Str), ∃ x4 x5 x6, σ = [some (.ref D.d), some (.int (m : Nat)), some (.ref lf), some (.ref nm), x4, x5, x6] ∧ NmS D H H' lf nm ns ls ∧ ns.length = i ∧ ls.length + i = 12) ⟨[], _, _, _, _, rfl, N0, rfl, rfl⟩ (fun i σ H' hi pv => ?_) (fun σ H' pv => ?_)
    · obtain ⟨ns, ls, x4, x5, x6, rfl, N, hn, hl⟩ := pv
      have hN := N.n
      have hL := N.l
      refine s_name ?_
      repeat walk_at "vc"
      refine ⟨D, _, rfl, N.kp.dk, by rw [List.length_map]; omega, by rw [List.length_map]; omega, fun r H3 r0 r1 k3 => ?_⟩
      rw [List.length_map] at r1
      have N3 := N.draw k3 n1 n2
      have hjl : r.toNat < ls.length := by omega
      have ez : ls[r.toNat]? = some ls[r.toNat] := List.getElem?_eq_getElem hjl
      refine i_nil ?_
      refine ⟨lf, ls.map V.str, r, r.toNat, .str ls[r.toNat], rfl, rfl, N3.l, by omega, by omega, ?_, by rw [List.getElem?_map, ez]; rfl, ?_⟩
      · have : ixN (ls.map V.str).length r = some r.toNat := by unfold ixN; rw [if_pos r0, List.length_map, if_pos r1]
        exact (ixN_seq this).1
      rw [erase_map]
      generalize hE : upd H3 lf _ = H4
      have l4 : H4 lf = some (.lst ((ls.eraseIdx r.toNat).map V.str)) := by rw [← hE, upd_same]
      have n4 : H4 nm = some (.lst (ns.map V.str)) := by rw [← hE, upd_ne nln.symm]; exact N3.n
      have k4 : Kp D H H4 := by rw [← hE]; exact Kp.fresh DA hlf N3.kp
      clear hE
      refine i_nil ?_
      refine i_app n4 (by rw [List.length_map]; omega) ?_
      generalize hE : upd H4 nm _ = H5
      have pm : (ns ++ [ls[r.toNat]] ++ ls.eraseIdx r.toNat).Perm (ns ++ ls) := by
        rw [List.append_assoc]
        exact List.Perm.append_left ns (perm_erase ls r.toNat hjl)
      have N5 : NmS D H H5 lf nm (ns ++ [ls[r.toNat]]) (ls.eraseIdx r.toNat) := ⟨by rw [← hE]; exact Kp.fresh DA Hnm k4, by rw [← hE, upd_ne nln]; exact l4, by rw [← hE, upd_same, List.map_append]; rfl, pm.nodup_iff.mpr N.nd, fun z hz => N.low z (pm.mem_iff.mp hz)⟩
      clear hE
      have le : (ls.eraseIdx r.toNat).length + (i + 1) = 12 := by rw [List.length_eraseIdx, if_pos hjl]; omega
      generalize ls.eraseIdx r.toNat = ls5 at N5 le
      generalize ls[r.toNat] = y at N5
      repeat walk_at "vc"
      refine ⟨D, 9, rfl, N5.kp.dk, by omega, by omega, fun r9 H6 a0 a1 k6 => ?_⟩
      have N6 := N5.draw k6 n1 n2
      repeat walk_at "vc"
      refine ⟨D, 3, rfl, N6.kp.dk, by omega, by omega, fun r3 H7 b0 b1 k7 => ?_⟩
      have N7 := N6.draw k7 n1 n2
      repeat walk_at "vc"
      obtain ⟨cnt, hc, c8⟩ : ∃ cnt : Nat, r9 * (if decide (V.int r3 = V.int 1) then 1 else 0) = (cnt : Int) ∧ cnt ≤ 8 := by
        cases decide (V.int r3 = V.int 1) with
        | true => exact ⟨r9.toNat, by rw [if_pos rfl]; omega, by omega⟩
        | false => exact ⟨0, by simp, by omega⟩
      refine ⟨by rw [hc]; omega, by rw [hc]; omega, ?_⟩
      rw [hc, Int.toNat_natCast]
      refine for_range (n := cnt) (fun j σ H' => ∃ (z : Str), ∃ x6, σ = [some (.ref D.d), some (.int (m : Nat)), some (.ref lf), some (.ref nm), some (.int (0 + (i : Nat))), some (.str z), x6] ∧ NmS D H H' lf nm (ns ++ [y]) ls5 ∧ WdOk z j) ⟨_, _, rfl, N7, ⟨rfl, fun c hc => by cases hc⟩⟩ (fun j σ H8 hj pv => ?_) (fun σ H8 pv => ?_)
      · obtain ⟨z, x6, rfl, N8, wd⟩ := pv
        refine s_name ?_
        repeat walk_at "vc"
        refine ⟨D, 26, rfl, N8.kp.dk, by omega, by omega, fun r26 H9 e0 e1 k9 => ?_⟩
        have N9 := N8.draw k9 n1 n2
        obtain ⟨c, hc, hc2⟩ : ∃ c : Nat, atI (Str.ofString "abcdefghijklmnopqrstuvwxyz").cps.toList r26 = some c ∧ 97 ≤ c ∧ c ≤ 122 := by
          have hl : (Str.ofString "abcdefghijklmnopqrstuvwxyz").cps.toList.length = 26 := by decide +kernel
          have hr : r26.toNat < (Str.ofString "abcdefghijklmnopqrstuvwxyz").cps.toList.length := by omega
          have all : ∀ c ∈ (Str.ofString "abcdefghijklmnopqrstuvwxyz").cps.toList, 97 ≤ c ∧ c ≤ 122 := by decide +kernel
          refine ⟨(Str.ofString "abcdefghijklmnopqrstuvwxyz").cps.toList[r26.toNat], ?_, all _ (List.getElem_mem hr)⟩
          have e : r26 = ((r26.toNat : Nat) : Int) := by omega
          have q := atI_nat (List.getElem?_eq_getElem hr)
          rw [← e] at q
          exact q
        refine i_ixS (by decide +kernel) hc ?_
        refine ⟨_, _, rfl, rfl, by have := wd.len; show z.length + 1 ≤ _; omega, ?_⟩
        repeat walk_at "vc"
        refine ⟨_, _, rfl, N9, ⟨by rw [len_app, wd.len]; rfl, fun u hu => ?_⟩⟩
        rw [app_list] at hu
        rcases List.mem_append.mp hu with hu | hu
        · exact wd.low u hu
        · have : u = c := List.mem_singleton.mp hu
          rw [this]; exact hc2
      · obtain ⟨z, x6, rfl, N8, wd⟩ := pv
        have h8n := N8.n
        have h8l := N8.l
        have nsl : (ns ++ [y]).length = i + 1 := by simp [hn]
        repeat walk_at "vc"
        refine i_cat h8n h8l (by rw [List.length_map, List.length_map]; omega) fun p1 hp1 => ?_
        rw [← List.map_append]
        have N9 := N8.new (o := .lst ((ns ++ [y] ++ ls5).map V.str)) hp1
        have h9 : upd H8 p1 (.lst ((ns ++ [y] ++ ls5).map V.str)) p1 = some (.lst ((ns ++ [y] ++ ls5).map V.str)) := upd_same
        generalize upd H8 p1 (.lst ((ns ++ [y] ++ ls5).map V.str)) = H9 at N9 h9 ⊢
        repeat walk_at "vc"
        refine ⟨by show 5 ≤ _; omega, fun p2 hp2 => ?_⟩
        generalize hE : upd H9 p2 _ = H10
        have N10 : NmS D H H10 lf nm (ns ++ [y]) ls5 := by rw [← hE]; exact N9.new hp2
        obtain ⟨S10, q10⟩ := upd_pair hp2 hE
        clear hE
        have q10' : H10 p2 = some (.lst ((["", "new", "w", "yy", "q"] : List Str).map V.str)) := q10
        refine i_cat (S10 _ _ h9) q10' (by rw [List.length_map, List.length_map, List.length_append]; show _ + 5 ≤ _; omega) fun p3 hp3 => ?_
        rw [← List.map_append]
        generalize hE : upd H10 p3 _ = H11
        have N11 : NmS D H H11 lf nm (ns ++ [y]) ls5 := by rw [← hE]; exact N10.new hp3
        obtain ⟨S11, q11⟩ := upd_pair hp3 hE
        clear hE
        refine not_str q11 fun b hb => ?_
        refine ⟨b, rfl, ?_⟩
        cases b with
        | false =>
          refine iteF ?_
          refine s_next ?_
          exact ⟨ns ++ [y], ls5, _, _, _, rfl, N11, nsl, le⟩
        | true =>
          refine iteT ?_
          have nz := hb rfl
          repeat walk_at "vc"
          have ei : ixN ((ns ++ [y]).map V.str).length (-1) = some ns.length := by
            unfold ixN
            rw [List.length_map, nsl, if_neg (by decide), if_pos (by omega)]
            congr 1
            omega
          refine s_setL N11.n ei ?_
          have es : ((ns ++ [y]).map V.str).set ns.length (V.str z) = (ns ++ [z]).map V.str := by simp
          rw [es]
          have z0 : z ≠ "" := fun h => nz (by rw [h]; simp)
          have z1 : z ∉ ns ++ [y] ++ ls5 := fun h => nz (List.mem_append_left _ h)
          have zl : Low z := ⟨by
            have l := wd.len
            by_cases c : cnt = 0
            · exfalso
              apply z0
              have e0 : z.cps.toList = [] := List.length_eq_zero_iff.mp (by have : z.cps.toList.length = z.length := Array.length_toList ..; omega)
              exact (mk_ext e0).trans (by decide +kernel)
            · omega, by have := wd.len; omega, wd.low⟩
          refine ⟨ns ++ [z], ls5, _, _, _, rfl, ⟨Kp.fresh DA Hnm N11.kp, by rw [upd_ne nln]; exact N11.l, upd_same, ?_, fun u hu => ?_⟩, by simp [hn], le⟩
          · have nd := N8.nd
            rw [List.append_assoc] at nd z1 ⊢
            rw [List.nodup_append] at nd ⊢
            obtain ⟨d1, d2, d3⟩ := nd
            have d2' : (y :: ls5).Nodup := d2
            refine ⟨d1, (List.nodup_cons.mpr ⟨fun h => z1 (List.mem_append_right _ (List.mem_cons_of_mem _ h)), (List.nodup_cons.mp d2').2⟩ : (z :: ls5).Nodup), fun a ha b hb => ?_⟩
            have hb' : b ∈ z :: ls5 := hb
            rcases List.mem_cons.mp hb' with e | h
            · subst e; exact fun e => z1 (List.mem_append_left _ (e ▸ ha))
            · exact d3 a ha b (List.mem_cons_of_mem _ h)
          · rcases List.mem_append.mp hu with h | h
            · rcases List.mem_append.mp h with h | h
              · exact N8.low u (List.mem_append_left _ (List.mem_append_left _ h))
              · rw [List.mem_singleton.mp h]; exact zl
            · exact N8.low u (List.mem_append_right _ h)
    · obtain ⟨ns, ls, x4, x5, x6, rfl, N, hn, hl⟩ := pv
      repeat walk_at "vc"
      exact k nm ns H' hn Hnm N.n (List.nodup_append.mp N.nd).1 (fun n h => N.low n (List.mem_append_left _ h)) N.kp
end
set_option Elab.async false
set_option linter.all false
set_option maxRecDepth 100000
set_option maxHeartbeats 4000000

noncomputable def spRuleW (d : Nat) : Sp := fun vs H Q _ => ∃ (D : Dk) (l : Addr) (ns : List Str) (m : Int), vs = [.ref D.d, .ref l, .int m] ∧ D.At H ∧ ¬ D.own l ∧ H l = some (.lst (ns.map V.str)) ∧ 1 ≤ ns.length ∧ ns.length ≤ 100 ∧ 1 ≤ m ∧ m ≤ (d : Int) ∧ ∀ v r H', RAt H' v r → r.ok ns → (r.dep : Int) ≤ m → Kp D H H' → Q v H'
noncomputable def spNetW : Sp := fun vs H Q _ => ∃ (D : Dk), vs = [.ref D.d, .int 10] ∧ D.At H ∧ ∀ a li lg ins gvs gs H', Kp D H H' → ¬ D.own li → ¬ D.own lg → li ≠ lg → NAt H' a li lg ins gvs gs → NetOk ins gs → IsNet ins gs → Q (.ref a) H'
theorem cut_from {xs : List V} {a : Nat} (h : a ≤ xs.length) : cutV xs (some (a : Int)) none = xs.drop a := by
  unfold cutV
  rw [HT.sIx_nat, HT.sIx_none, Nat.min_eq_left h, List.take_of_length_le (by rw [List.length_drop]; omega)]
theorem cut_to {xs : List V} {a : Nat} (h : a ≤ xs.length) : cutV xs none (some (a : Int)) = xs.take a := by
  unfold cutV
  rw [HT.sIx_nat, HT.sIx_none, Nat.min_eq_left h, List.drop_zero, Nat.sub_zero]
theorem at_pick {ws : List Str} {r : Int} (h0 : 0 ≤ r) (h1 : r < ws.length) : ∃ n ∈ ws, atI (ws.map V.str) r = some (.str n) := by
  have hr : r.toNat < ws.length := by omega
  refine ⟨ws[r.toNat], List.getElem_mem hr, ?_⟩
  have e : r = ((r.toNat : Nat) : Int) := by omega
  have q := atI_nat (xs := ws.map V.str) (j := r.toNat) (v := .str ws[r.toNat]) (by rw [List.getElem?_map, List.getElem?_eq_getElem hr]; rfl)
  rw [← e] at q
  exact q
section
variable {P : Program} {w : World} {K : PySem.W.Frag} {mg : Str → Option Value} {base : Heap} {TT : Addr}
theorem sc_law_rule : FnScope ["deck", "names", "deep", "way"] ["deck", "names", "deep"] (defScope (top 35)) := ⟨rfl, rfl, rfl, by decide +kernel, rfl, by decide +kernel, by decide +kernel⟩
theorem ok_ruleW {f : Addr} {fd : FuncData} (Fu : Fun K "_law_rule" "_law_rule" (top 35) f fd) (T : Txt K mg TT) (f_law_take : Fn P w K mg base "_law_take" ["deck", "many"] 1 spDraw) (hm : mg "_law_rule" = some (.ref f)) (hk : PySem.W.keepIn K (.ref f) = true) (hb : Binds K fd ["deck", "names", "deep"] []) : ∀ d, FnOk P w K mg base CX0 (d + 1) f fd ["deck", "names", "deep"] (spRuleW d)
  | 0 => fnok_false fun vs H Q E ⟨D, l, ns, m, _, _, _, _, _, _, h1, h2, _⟩ => by omega
  | d + 1 => by
    have S := sc_law_rule
    have f_law_rule : Fn P w K mg base "_law_rule" ["deck", "names", "deep"] (d + 1) (spRuleW d) := ⟨f, fd, ok_ruleW Fu T f_law_take hm hk hb d, hm, hk, hb⟩
    refine Fu.ok S (fun vs H Q E h => ?_) (fun cdv A outer s H vs Q E hr h => ?_)
    · obtain ⟨D, l, ns, m, rfl, _⟩ := h
      rfl
    · obtain ⟨D, l, ns, m, rfl, DA, nol, hl, n1, n100, m1, md, k⟩ := h
      have big : 1000000 < sizeLine := by decide
      refine ⟨_, (pss_cons (ps_set (i := 3) S.nd rfl (by first | exact Or.inl rfl | exact Or.inr rfl) (pe_fn f_law_take (hr.mono (by first | decide | omega)) (by rfl) (pa_cons (pv 0) (pa_cons pe_int pa_nil))))
      (pss_cons (ps_if (PW.pt (pw_or (pt_cmpR op_lt (pv 2) pe_int (nomark _)) (pw_or1 (pt_cmpR op_lt (pv 3) pe_int (nomark _))))) (pss_one (ps_ret (pe_tup (pa_cons pe_str (pa_cons (pe_ix ix_list (pv 1) (pe_fn f_law_take (hr.mono (by first | decide | omega)) (by rfl) (pa_cons (pv 0) (pa_cons (pe_callB call_len_seq (by rfl) T.n_len PySem.boot_len (pa_cons (pv 1) pa_nil)) pa_nil))) (fun _ _ => rfl)) pa_nil))))) pss_nil)
      (pss_cons (ps_if (pt_cmpR op_eq (pv 3) pe_int (nomark _)) (pss_one (ps_ret (pe_tup (pa_cons pe_str (pa_cons (pe_fn f_law_rule (hr.mono (by first | decide | omega)) (by rfl) (pa_cons (pv 0) (pa_cons (pv 1) (pa_cons (pe_op op_sub (pv 2) pe_int) pa_nil)))) pa_nil))))) pss_nil)
      (pss_one (ps_ret (pe_tup (pa_cons (pe_ix ix_list (pe_lst (pa_cons pe_str (pa_cons pe_str pa_nil))) (pe_op op_sub (pv 3) pe_int) (fun _ _ => rfl)) (pa_cons (pe_fn f_law_rule (hr.mono (by first | decide | omega)) (by rfl) (pa_cons (pv 0) (pa_cons (pv 1) (pa_cons (pe_op op_sub (pv 2) pe_int) pa_nil)))) (pa_cons (pe_fn f_law_rule (hr.mono (by first | decide | omega)) (by rfl) (pa_cons (pv 0) (pa_cons (pv 1) (pa_cons (pe_op op_sub (pv 2) pe_int) pa_nil)))) pa_nil))))))))), ?_⟩
      try dsimp only [cxOf, Cx.nox, Cx.wish]
      rw [show L2.start ["deck", "names", "deep", "way"] [V.ref D.d, V.ref l, V.int m] = [some (.ref D.d), some (.ref l), some (.int m), none] from rfl]
      repeat walk_at "vc"
      refine ⟨D, 5, rfl, DA, by omega, by omega, fun way H1 w0 w5 k1 => ?_⟩
      have hl1 := k1.old _ _ hl nol
      repeat walk_at "vc"
      have leaf : ∀ {D' : Ends}, D'.rt = Q → tRet (tTup (tCons (tC (V.str "wire")) (tCons (tOp (rIxL K) (tVar 1) (tCall spDraw [] E0 (tCons (tVar 0) (tCons (tCB (fun xs H Q => ∃ p ys, xs = [V.ref p] ∧ (SqL K H p ys ∨ SqT K H p ys) ∧ Q (V.int ↑ys.length) H) (tCons (tVar 1) tNil)) tNil)))) tNil))) D' [some (.ref D.d), some (.ref l), some (.int m), some (.int way)] H1 := fun hD => by
        refine s_ret ?_
        rw [hD]
        repeat walk_at "vc"
        refine ⟨D, _, rfl, k1.dk, by rw [List.length_map]; omega, by rw [List.length_map]; omega, fun r H2 r0 r1 k2 => ?_⟩
        rw [List.length_map] at r1
        have hl2 := k2.old _ _ hl1 nol
        obtain ⟨nm, hnm, e⟩ := at_pick r0 r1
        refine i_ixL (SqL.of hl2) e ?_
        repeat walk_at "vc"
        refine ⟨by show 2 ≤ _; omega, fun p hp => ?_⟩
        exact k (.ref p) (.w nm) _ (.w upd_same) hnm (by show (1 : Int) ≤ m; omega) ((k1.trans k2).new hp)
      by_cases c1 : m < 2
      · refine ifT (decide_eq_true c1) (iteT ?_)
        exact leaf rfl
      · refine ifF (decide_eq_false c1) ?_
        repeat walk_at "vc"
        by_cases c2 : way < 2
        · refine ifT (decide_eq_true c2) ?_
          exact leaf rfl
        · refine ifF (decide_eq_false c2) ?_
          repeat walk_at "vc"
          by_cases c3 : way = 2
          · subst c3
            refine ifT (by decide) ?_
            repeat walk_at "vc"
            refine ⟨D, l, ns, m - 1, rfl, k1.dk, nol, hl1, n1, n100, by omega, by omega, fun v r H2 h2 ok dp k2 => ?_⟩
            repeat walk_at "vc"
            refine ⟨by show 2 ≤ _; omega, fun p hp => ?_⟩
            generalize hE : upd H2 p _ = H3
            obtain ⟨S3, q3⟩ := upd_pair hp hE
            clear hE
            exact k (.ref p) (.no r) H3 (.no q3 (h2.mono (Same.tups S3))) ok (by show (((r.dep + 1 : Nat)) : Int) ≤ m; omega) ((k1.trans k2).trans (Kp.of k2.dk S3))
          · refine ifF (decide_eq_false fun h => by injection h with h; exact c3 h) ?_
            repeat walk_at "vc"
            refine ⟨by show 2 ≤ _; omega, fun p hp => ?_⟩
            generalize hE : upd H1 p _ = H2
            obtain ⟨S2, q2⟩ := upd_pair hp hE
            clear hE
            have hl2 := S2 _ _ hl1
            have k2 : Kp D H H2 := k1.trans (Kp.of k1.dk S2)
            repeat walk_at "vc"
            obtain ⟨b, hb⟩ : ∃ b : Bool, atI ([V.str "and", V.str "or"] : List V) (way - 3) = some (.str (kindS b)) := by
              have : way = 3 ∨ way = 4 := by omega
              rcases this with e | e
              · subst e; exact ⟨true, rfl⟩
              · subst e; exact ⟨false, rfl⟩
            refine i_ixL (SqL.of q2) hb ?_
            repeat walk_at "vc"
            refine ⟨D, l, ns, m - 1, rfl, k2.dk, nol, hl2, n1, n100, by omega, by omega, fun v r H3 h3 ok3 dp3 k3 => ?_⟩
            have hl3 := k3.old _ _ hl2 nol
            repeat walk_at "vc"
            refine ⟨D, l, ns, m - 1, rfl, k3.dk, nol, hl3, n1, n100, by omega, by omega, fun u r' H4 h4 ok4 dp4 k4 => ?_⟩
            repeat walk_at "vc"
            refine ⟨by show 3 ≤ _; omega, fun p5 hp5 => ?_⟩
            generalize hE : upd H4 p5 _ = H5
            obtain ⟨S5, q5⟩ := upd_pair hp5 hE
            clear hE
            refine k (.ref p5) (bin b r r') H5 (rat_bin q5 ((h3.mono (k4.tups k3.dk)).mono (Same.tups S5)) (h4.mono (Same.tups S5))) ?_ ?_ (((k2.trans k3).trans k4).trans (Kp.of k4.dk S5))
            · cases b
              · exact ⟨ok3, ok4⟩
              · exact ⟨ok3, ok4⟩
            · have e : (bin b r r').dep = max r.dep r'.dep + 1 := by cases b <;> rfl
              rw [e]
              omega
theorem sc_law_net : FnScope ["deck", "deepest", "many", "names", "gates"] ["deck", "deepest"] (defScope (top 36)) := ⟨rfl, rfl, rfl, by decide +kernel, rfl, by decide +kernel, by decide +kernel⟩
theorem ok_netW {f : Addr} {fd : FuncData} (Fu : Fun K "_law_net" "_law_net" (top 36) f fd) (T : Txt K mg TT) (f_law_take : Fn P w K mg base "_law_take" ["deck", "many"] 1 spDraw) (f_law_wire_names : Fn P w K mg base "_law_wire_names" ["deck", "many"] 2 spNamesW) (f_law_rule : Fn P w K mg base "_law_rule" ["deck", "names", "deep"] 11 (spRuleW 10)) : FnOk P w K mg base CX0 12 f fd ["deck", "deepest"] spNetW := by
  have S := sc_law_net
  refine Fu.ok S (fun vs H Q E h => ?_) (fun cdv A outer s H vs Q E hr h => ?_)
  · obtain ⟨D, rfl, _⟩ := h
    rfl
  · obtain ⟨D, rfl, DA, k⟩ := h
    have big : 1000000 < sizeLine := by decide
    refine' ⟨?_, (pss_cons ?h0 (pss_cons ?h1 (pss_cons ?h2 (pss_one ?h3)))), ?_⟩
    case h0 =>
      refine' ps_set (i := 2) ?n ?r ?l ?e ?s ?f
      case n => exact S.nd
      case r => rfl
      case l => first | exact Or.inl rfl | exact Or.inr rfl
      case s => rfl
      case f => first | exact Or.inl rfl | exact Or.inr rfl
      case e => exact (pe_fn f_law_take (hr.mono (by first | decide | omega)) (by rfl) (pa_cons (pv 0) (pa_cons pe_int pa_nil)))
    case h1 =>
      refine' ps_set (i := 3) ?n ?r ?l ?e ?s ?f
      case n => exact S.nd
      case r => rfl
      case l => first | exact Or.inl rfl | exact Or.inr rfl
      case s => rfl
      case f => first | exact Or.inl rfl | exact Or.inr rfl
      case e => exact (pe_fn f_law_wire_names (hr.mono (by first | decide | omega)) (by rfl) (pa_cons (pv 0) (pa_cons (pe_op op_add (pe_op op_add (pv 2) pe_int) (pe_fn f_law_take (hr.mono (by first | decide | omega)) (by rfl) (pa_cons (pv 0) (pa_cons pe_int pa_nil)))) pa_nil)))
    case h2 => exact (ps_lc (j := 4) S.nd rfl (by first | exact Or.inl rfl | exact Or.inr rfl) (tgs := ["name"]) (cap := [("deck", 0), ("names", 3), ("deepest", 1)]) rfl ⟨rfl, rfl, rfl, rfl, rfl, rfl⟩ (pi_list (pe_slice sl_list (pv 3) (po_some (pv 2)) po_none)) (fun _ _ _ _ => (pg_name (i := 0) (show List.Nodup [("name" : Str), ("deck" : Str), ("names" : Str), ("deepest" : Str)] by decide +kernel) rfl (by first | exact Or.inl rfl | exact Or.inr rfl))) (fun _ _ _ _ => pifs_nil) (fun _ _ _ _ => (pe_tup (pa_cons (pv 0) (pa_cons (pe_fn f_law_rule (hr.mono (by first | decide | omega)) (by rfl) (pa_cons (pv 1) (pa_cons (pv 2) (pa_cons (pe_op op_add pe_int (pe_fn f_law_take (hr.mono (by first | decide | omega)) (by rfl) (pa_cons (pv 1) (pa_cons (pv 3) pa_nil)))) pa_nil)))) pa_nil)))))
    case h3 => exact (ps_ret (pe_tup (pa_cons (pe_slice sl_list (pv 3) po_none (po_some (pv 2))) (pa_cons (pv 4) pa_nil))))
    try dsimp only [cxOf, Cx.nox, Cx.wish]
    rw [show L2.start ["deck", "deepest", "many", "names", "gates"] [V.ref D.d, V.int 10] = [some (.ref D.d), some (.int 10), none, none, none] from rfl]
    repeat walk_at "vc"
    refine ⟨D, 5, rfl, DA, by omega, by omega, fun r5 H1 a0 a1 k1 => ?_⟩
    repeat walk_at "vc"
    refine ⟨D, 7, rfl, k1.dk, by omega, by omega, fun r7 H2 b0 b1 k2 => ?_⟩
    have k02 := k1.trans k2
    repeat walk_at "vc"
    obtain ⟨i, rfl⟩ := Int.eq_ofNat_of_zero_le a0
    obtain ⟨j, rfl⟩ := Int.eq_ofNat_of_zero_le b0
    refine ⟨D, i + 1 + j, by simp [Int.natCast_add], k2.dk, by omega, fun l ns H3 hlen hl h3 nd lw k3 => ?_⟩
    have k03 := k02.trans k3
    have nol : ¬ D.own l := notOwn_fresh k2.dk hl
    repeat walk_at "vc"
    refine i_comp ?_
    repeat walk_at "vc"
    refine i_slL (SqL.of h3) fun p4 hp4 => ?_
    rw [cut_from (by rw [List.length_map]; omega), ← List.map_drop]
    generalize hE : upd H3 p4 _ = H4
    obtain ⟨S4, q4⟩ := upd_pair hp4 hE
    clear hE
    have k04 : Kp D H H4 := k03.trans (Kp.of k03.dk S4)
    have nop : ¬ D.own p4 := notOwn_fresh k03.dk hp4
    have h4 := S4 _ _ h3
    refine ⟨p4, rfl, ⟨_, SqL.of q4⟩, fun L hL => ?_⟩
    have noL : ¬ D.own L := notOwn_fresh k04.dk hL
    have nlL : l ≠ L := ne_of_none h4 hL
    have npL : p4 ≠ L := ne_of_none q4 hL
    refine comp_list (xs := (ns.drop i).map V.str) (fun n H' ys => Kp D H4 H' ∧ H' L = some (.lst ys) ∧ ∃ gs : List (Str × Rl), Paired (GAt H') ys gs ∧ gs.map (·.1) = (ns.drop i).take n ∧ ∀ g ∈ gs, g.2.ok ns ∧ g.2.dep ≤ 10) ⟨Kp.of k04.dk (fresh_same hL), upd_same, [], .nil, rfl, fun g h => nomatch h⟩ (fun n H' ys pv => ⟨pv.2.1, SqL.of (pv.1.old _ _ q4 nop)⟩) (fun n x H' ys e pv => ?_) (fun H' ys pv => ?_)
    · obtain ⟨kp, hd, gs, pr, eg, okg⟩ := pv
      have hn : n < ((ns.drop i).map V.str).length := (List.getElem?_eq_some_iff.mp e).1
      rw [List.getElem?_map] at e
      obtain ⟨z, ez, rfl⟩ : ∃ z, (ns.drop i)[n]? = some z ∧ V.str z = x := by
        cases h : (ns.drop i)[n]? with
        | none => rw [h] at e; cases e
        | some z => rw [h] at e; exact ⟨z, rfl, Option.some.inj e⟩
      refine s_name ⟨by repeat' (first | exact trivial | refine ⟨rfl, ?_⟩), i_yes (iteT ?_)⟩
      repeat walk_at "vc"
      refine ⟨D, 10, rfl, kp.dk, by omega, by omega, fun r10 H5 c0 c1 k5 => ?_⟩
      have kp5 := kp.trans k5
      have h5 := kp5.old _ _ h4 nol
      repeat walk_at "vc"
      refine ⟨D, l, ns, 1 + r10, rfl, kp5.dk, nol, h5, by omega, by omega, by omega, by show _ ≤ (10 : Int); omega, fun v r H6 hv okr dp k6 => ?_⟩
      have kp6 := kp5.trans k6
      repeat walk_at "vc"
      refine ⟨by show 2 ≤ _; omega, fun p7 hp7 => ?_⟩
      generalize hE : upd H6 p7 _ = H7
      obtain ⟨S7, q7⟩ := upd_pair hp7 hE
      clear hE
      have kp7 : Kp D H4 H7 := kp6.trans (Kp.of kp6.dk S7)
      have hd7 : H7 L = some (.lst ys) := S7 _ _ (k6.old _ _ (k5.old _ _ hd noL) noL)
      have kt : KeepT H' H7 := fun b xs e => S7 _ _ (k6.tups kp5.dk _ _ (k5.tups kp.dk _ _ e))
      have pl := paired_len pr
      have gl : gs.length = n := by
        have := congrArg List.length eg
        rw [List.length_map, List.length_take] at this
        rw [List.length_map] at hn
        omega
      have eD : KeepT H7 (upd H7 L (HO.lst (ys ++ [V.ref p7]))) := fun b xs e => by rw [upd_ne]; exact e; intro z; subst z; rw [hd7] at e; cases e
      refine NextC.mk hd7 hn (by rw [List.length_map, List.length_drop] at hn; omega) ⟨Kp.fresh k04.dk hL kp7, upd_same, gs ++ [(z, r)], ?_, ?_, fun g hg => ?_⟩
      · exact paired_snoc (gates_mono eD (gates_mono kt pr)) (GAt.mono eD ⟨p7, v, rfl, q7, hv.mono (Same.tups S7)⟩)
      · rw [List.map_append, eg, List.take_succ, ez]; rfl
      · rcases List.mem_append.mp hg with h | h
        · exact okg g h
        · rw [List.mem_singleton.mp h]; exact ⟨okr, by show r.dep ≤ 10; omega⟩
    · obtain ⟨kp, hd, gs, pr, eg, okg⟩ := pv
      rw [List.length_map, List.take_length] at eg
      have h5 := kp.old _ _ h4 nol
      repeat walk_at "vc"
      refine i_slL (SqL.of h5) fun p8 hp8 => ?_
      rw [cut_to (by rw [List.length_map]; omega), ← List.map_take]
      generalize hE : upd H' p8 _ = H8
      obtain ⟨S8, q8⟩ := upd_pair hp8 hE
      clear hE
      have hd8 := S8 _ _ hd
      repeat walk_at "vc"
      refine ⟨by show 2 ≤ _; omega, fun p9 hp9 => ?_⟩
      generalize hE : upd H8 p9 _ = H9
      obtain ⟨S9, q9⟩ := upd_pair hp9 hE
      clear hE
      have ew : wiresN (ns.take i) gs = ns := by unfold wiresN; rw [eg, List.take_append_drop]
      have gl : gs.length = ns.length - i := by
        have := congrArg List.length eg
        rw [List.length_map, List.length_drop] at this
        exact this
      have il : (ns.take i).length = i := by rw [List.length_take]; omega
      refine k p9 p8 L (ns.take i) ys gs H9 ((k04.trans kp).trans (Kp.of kp.dk (S8.trans S9))) (notOwn_fresh kp.dk hp8) noL (fun z => ?_) ⟨q9, S9 _ _ q8, S9 _ _ hd8, gates_mono (Same.tups (S8.trans S9)) pr⟩ ⟨by omega, by omega, fun g hg => by rw [ew]; exact okg g hg, by rw [ew]; exact lw⟩ ⟨by omega, by omega, by omega, by rw [ew]; exact nd⟩
      rw [z, hd] at hp8
      cases hp8
end
set_option Elab.async false
set_option linter.all false
set_option maxRecDepth 100000
set_option maxHeartbeats 4000000

theorem JJ_snoc (Y q : List Nat) : ∀ (ps : List (List Nat)) (p : List Nat), JJ Y p (ps ++ [q]) = JJ Y p ps ++ (Y ++ q)
  | [], p => rfl
  | r :: ps, p => by
    show p ++ (Y ++ JJ Y r (ps ++ [q])) = p ++ (Y ++ JJ Y r ps) ++ (Y ++ q)
    rw [JJ_snoc Y q ps r]
    simp
noncomputable def signS (b : Bool) : Str := if b then "&" else "|"
theorem txt_bin (b : Bool) (r s : Rl) : ("(" : Str) ++ mk (rT r) ++ (" " : Str) ++ signS b ++ (" " : Str) ++ mk (rT s) ++ (")" : Str) = mk (rT (bin b r s)) := mk_ext (by
  rw [rT_bin, app_list, app_list, app_list, app_list, app_list, app_list]
  cases b
  · show [40] ++ rT r ++ [32] ++ [124] ++ [32] ++ rT s ++ [41] = _
    simp [mid]
  · show [40] ++ rT r ++ [32] ++ [38] ++ [32] ++ rT s ++ [41] = _
    simp [mid])
theorem txt_more (l : List Nat) (g : Str × Rl) : mk l ++ ("; " : Str) ++ g.1 ++ ("=" : Str) ++ mk (rT g.2) = mk (l ++ ([59, 32] ++ gT g)) := mk_ext (by
  rw [app_list, app_list, app_list, app_list]
  show l ++ [59, 32] ++ g.1.cps.toList ++ [61] ++ rT g.2 = _
  simp [gT])
theorem i_disp {trs : List (TE × TE)} {σ : St} {H : Hp} {Q : VK} (q : ∀ p, H p = none → tPairs trs σ (upd H p (.dK [])) fun ps H2 => H2 p = some (.dK []) ∧ ∃ kvs : List (Key × V), ps = kvs.map (fun kv => (kV kv.1, kv.2)) ∧ kvs.length ≤ 15 ∧ Q (.ref p) (upd H2 p (.dK (mergeK [] kvs)))) : tDisp trs σ H Q := q
noncomputable def marksD : List (Key × V) := [(Sum.inr "and", .str "&"), (Sum.inr "or", .str "|")]
theorem marks_get (b : Bool) : valV (mergeK [] marksD) (Sum.inr (kindS b) : Key) = some (.str (signS b)) := by
  cases b <;> decide +kernel
theorem len_sign (b : Bool) : (signS b).length = 1 := by cases b <;> decide +kernel
noncomputable def spWritN : Sp := fun vs H Q _ => ∃ a li lg ins gvs gs, vs = [.ref a] ∧ NAt H a li lg ins gvs gs ∧ NetOk ins gs ∧ ∀ H', Same H H' → Q (.str (mk (nT ins gs))) H'
section
variable {P : Program} {w : World} {K : PySem.W.Frag} {mg : Str → Option Value} {base : Heap} {TT : Addr}
theorem rat_open {H : Hp} {v : V} {r : Rl} (h : RAt H v r) : (∃ b n, v = .ref b ∧ r = .w n ∧ H b = some (.tup [.str "wire", .str n])) ∨ (∃ b u r1, v = .ref b ∧ r = .no r1 ∧ H b = some (.tup [.str "not", u]) ∧ RAt H u r1) ∨
    ∃ b u x k r1 r2, v = .ref b ∧ r = bin k r1 r2 ∧ H b = some (.tup [.str (kindS k), u, x]) ∧ RAt H u r1 ∧ RAt H x r2 := by
  cases h with
  | w hb => exact .inl ⟨_, _, rfl, rfl, hb⟩
  | no hb h1 => exact .inr (.inl ⟨_, _, _, rfl, rfl, hb, h1⟩)
  | an hb h1 h2 => exact .inr (.inr ⟨_, _, _, true, _, _, rfl, rfl, hb, h1, h2⟩)
  | orr hb h1 h2 => exact .inr (.inr ⟨_, _, _, false, _, _, rfl, rfl, hb, h1, h2⟩)
theorem low_bin {b : Bool} {r s : Rl} (h : low (bin b r s)) : low r ∧ low s := by cases b <;> exact h
theorem dep_bin (b : Bool) (r s : Rl) : (bin b r s).dep = max r.dep s.dep + 1 := by cases b <;> rfl
theorem sc_law_rule_written : FnScope ["rule", "sign", "first"] ["rule"] (defScope (top 37)) := ⟨rfl, rfl, rfl, by decide +kernel, rfl, by decide +kernel, by decide +kernel⟩
theorem ok_writr {f : Addr} {fd : FuncData} (Fu : Fun K "_law_rule_written" "_law_rule_written" (top 37) f fd) (T : Txt K mg TT) (hm : mg "_law_rule_written" = some (.ref f)) (hk : PySem.W.keepIn K (.ref f) = true) (hb : Binds K fd ["rule"] []) : ∀ d, FnOk P w K mg base CX0 d f fd ["rule"] (spShowR d)
  | 0 => fnok_false fun vs H Q E ⟨v, r, _, _, h, _⟩ => by have := dep_pos r; omega
  | d + 1 => by
    have S := sc_law_rule_written
    have f_law_rule_written : Fn P w K mg base "_law_rule_written" ["rule"] d (spShowR d) := ⟨f, fd, ok_writr Fu T hm hk hb d, hm, hk, hb⟩
    refine Fu.ok S (fun vs H Q E h => ?_) (fun cdv A outer s H vs Q E hr h => ?_)
    · obtain ⟨v, r, rfl, _⟩ := h
      rfl
    · obtain ⟨v, r, rfl, ra, hd, h10, lw, q⟩ := h
      have big : 1000000 < sizeLine := by decide
      have hu := hu_of hr
      refine ⟨_, (pss_cons (ps_if (pt_cmpR op_eq (pe_ix ix_tup (pv 0) pe_int (fun _ _ => rfl)) pe_str (nomark _)) (pss_one (ps_ret (pe_ix ix_tup (pv 0) pe_int (fun _ _ => rfl)))) pss_nil)
      (pss_cons (ps_if (pt_cmpR op_eq (pe_ix ix_tup (pv 0) pe_int (fun _ _ => rfl)) pe_str (nomark _)) (pss_one (ps_ret (pe_op op_add_str pe_str (pe_fn f_law_rule_written (hr.mono (by first | decide | omega)) (by rfl) (pa_cons (pe_ix ix_tup (pv 0) pe_int (fun _ _ => rfl)) pa_nil))))) pss_nil)
      (pss_cons (ps_set (i := 1) S.nd rfl (by first | exact Or.inl rfl | exact Or.inr rfl) (pe_dget hu (pe_disp (pps_cons pe_str pe_str (pps_cons pe_str pe_str pps_nil)) rfl rfl (by simp) (by decide)) (pe_ix ix_tup (pv 0) pe_int (fun _ _ => rfl)) (fun _ _ => rfl)))
      (pss_cons (ps_set (i := 2) S.nd rfl (by first | exact Or.inl rfl | exact Or.inr rfl) (pe_fn f_law_rule_written (hr.mono (by first | decide | omega)) (by rfl) (pa_cons (pe_ix ix_tup (pv 0) pe_int (fun _ _ => rfl)) pa_nil)))
      (pss_one (ps_ret (pe_op op_add_str (pe_op op_add_str (pe_op op_add_str (pe_op op_add_str (pe_op op_add_str (pe_op op_add_str pe_str (pv 2)) pe_str) (pv 1)) pe_str) (pe_fn f_law_rule_written (hr.mono (by first | decide | omega)) (by rfl) (pa_cons (pe_ix ix_tup (pv 0) pe_int (fun _ _ => rfl)) pa_nil))) pe_str))))))), ?_⟩
      try dsimp only [cxOf, Cx.nox, Cx.wish]
      rw [show L2.start ["rule", "sign", "first"] [v] = [some v, none, none] from rfl]
      rcases rat_open ra with ⟨b, n, rfl, rfl, hb⟩ | ⟨b, u, r1, rfl, rfl, hb, h1⟩ | ⟨b, u, x, kk, r1, r2, rfl, rfl, hb, h1, h2⟩
      · repeat walk_at "vc"
        refine ifT (by decide +kernel) ?_
        repeat walk_at "vc"
        exact q H (Same.refl H)
      · repeat walk_at "vc"
        refine ifF (by decide +kernel) ?_
        repeat walk_at "vc"
        refine ifT (by decide +kernel) ?_
        repeat walk_at "vc"
        have dr : (Rl.no r1).dep = r1.dep + 1 := rfl
        refine ⟨u, r1, rfl, h1, by omega, by omega, lw, fun H1 S1 => ?_⟩
        have l1 := rT_small (r := r1) lw (by omega)
        refine ⟨_, _, rfl, rfl, by rw [mk_len]; show 1 + _ ≤ _; omega, ?_⟩
        rw [txt_not]
        exact q H1 S1
      · have dr := dep_bin kk r1 r2
        obtain ⟨w1, w2⟩ := low_bin lw
        have l1 := rT_small (r := r1) w1 (by omega)
        have l2 := rT_small (r := r2) w2 (by omega)
        have ls := len_sign kk
        repeat walk_at "vc"
        refine ifF (by cases kk <;> decide +kernel) ?_
        repeat walk_at "vc"
        refine ifF (by cases kk <;> decide +kernel) ?_
        repeat walk_at "vc"
        refine i_disp fun p hp => ?_
        refine ⟨upd_same, marksD, rfl, by decide, ?_⟩
        have hb' : upd (upd H p (.dK [])) p (.dK (mergeK [] marksD)) b = some (.tup [.str (kindS kk), u, x]) := by rw [upd_ne (ne_of_none hb hp), upd_ne (ne_of_none hb hp)]; exact hb
        have S1 : Same H (upd (upd H p (.dK [])) p (.dK (mergeK [] marksD))) := same_upd (fresh_same hp) hp
        have hp' : upd (upd H p (.dK [])) p (.dK (mergeK [] marksD)) p = some (.dK (mergeK [] marksD)) := upd_same
        generalize upd (upd H p (.dK [])) p (.dK (mergeK [] marksD)) = H1 at hb' S1 hp' ⊢
        repeat walk_at "vc"
        refine ⟨p, .str (signS kk), rfl, ?_, ?_⟩
        · have z := DGet.k (k := Sum.inr (kindS kk)) hp'
          rw [marks_get] at z
          exact z
        repeat walk_at "vc"
        refine ⟨u, r1, rfl, h1.mono (Same.tups S1), by omega, by omega, w1, fun H2 S2 => ?_⟩
        have hb2 := S2 _ _ hb'
        repeat walk_at "vc"
        refine ⟨_, _, rfl, rfl, by rw [mk_len]; show 1 + _ ≤ _; omega, ?_⟩
        repeat walk_at "vc"
        refine ⟨_, _, rfl, rfl, by rw [len_app, mk_len]; show 1 + _ + 1 ≤ _; omega, ?_⟩
        repeat walk_at "vc"
        refine ⟨_, _, rfl, rfl, by rw [len_app, len_app, mk_len, ls]; show 1 + _ + 1 + 1 ≤ _; omega, ?_⟩
        repeat walk_at "vc"
        refine ⟨_, _, rfl, rfl, by rw [len_app, len_app, len_app, mk_len, ls]; show 1 + _ + 1 + 1 + 1 ≤ _; omega, ?_⟩
        repeat walk_at "vc"
        refine ⟨x, r2, rfl, h2.mono (Same.tups (S1.trans S2)), by omega, by omega, w2, fun H3 S3 => ?_⟩
        refine ⟨_, _, rfl, rfl, by rw [len_app, len_app, len_app, len_app, mk_len, mk_len, ls]; show 1 + _ + 1 + 1 + 1 + _ ≤ _; omega, ?_⟩
        repeat walk_at "vc"
        refine ⟨_, _, rfl, rfl, by rw [len_app, len_app, len_app, len_app, len_app, mk_len, mk_len, ls]; show 1 + _ + 1 + 1 + 1 + _ + 1 ≤ _; omega, ?_⟩
        rw [txt_bin]
        exact q H3 (S1.trans (S2.trans S3))
theorem sc_law_net_written : FnScope ["net", "found", "name", "rule"] ["net"] (defScope (top 38)) := ⟨rfl, rfl, rfl, by decide +kernel, rfl, by decide +kernel, by decide +kernel⟩
theorem ok_writn {f : Addr} {fd : FuncData} (Fu : Fun K "_law_net_written" "_law_net_written" (top 38) f fd) (T : Txt K mg TT) (f_law_rule_written : Fn P w K mg base "_law_rule_written" ["rule"] 10 (spShowR 10)) : FnOk P w K mg base CX0 11 f fd ["net"] spWritN := by
  have S := sc_law_net_written
  refine Fu.ok S (fun vs H Q E h => ?_) (fun cdv A outer s H vs Q E hr h => ?_)
  · obtain ⟨a, li, lg, ins, gvs, gs, rfl, _⟩ := h
    rfl
  · obtain ⟨a, li, lg, ins, gvs, gs, rfl, NA, ok, q⟩ := h
    obtain ⟨ha, hi, hg, gts⟩ := id NA
    have o := ok.low1
    have gl := paired_len gts
    have i4 := ok.i4
    have g7 := ok.g7
    have big : 1000000 < sizeLine := by decide
    refine' ⟨?_, (pss_cons ?h0 (pss_cons (ps_if ?h1 (pss_one ?h2) pss_nil) (pss_cons (ps_for PassesOwn.never rfl ?h3 ?h4 (pss_one ?h5)) (pss_one ?h6)))), ?_⟩
    case h0 =>
      refine' ps_set (i := 1) ?n ?r ?l ?e ?s ?f
      case n => exact S.nd
      case r => rfl
      case l => first | exact Or.inl rfl | exact Or.inr rfl
      case s => rfl
      case f => first | exact Or.inl rfl | exact Or.inr rfl
      case e => exact (pe_bm PySem.F.plainAttrs_str PySem.F.slot_str_join PySem.F.type_str_join mt_join pe_str (pa_cons (pe_ix ix_tup (pv 0) pe_int (fun _ _ => rfl)) pa_nil))
    case h1 => exact (pt_cmpR (op_eqL hr.units) (pe_ix ix_tup (pv 0) pe_int (fun _ _ => rfl)) (pe_lst pa_nil) (nomark _))
    case h2 =>
      refine' ps_set (i := 1) ?n ?r ?l ?e ?s ?f
      case n => exact S.nd
      case r => rfl
      case l => first | exact Or.inl rfl | exact Or.inr rfl
      case s => rfl
      case f => first | exact Or.inl rfl | exact Or.inr rfl
      case e => exact pe_str
    case h3 => exact (pi_list (pe_ix ix_tup (pv 0) pe_int (fun _ _ => rfl)))
    case h4 => exact (pg_tup rfl (pgs_cons (pg_name (i := 2) S.nd rfl (by first | exact Or.inl rfl | exact Or.inr rfl)) (pgs_cons (pg_name (i := 3) S.nd rfl (by first | exact Or.inl rfl | exact Or.inr rfl)) pgs_nil)))
    case h5 =>
      refine' ps_set (i := 1) ?n ?r ?l ?e ?s ?f
      case n => exact S.nd
      case r => rfl
      case l => first | exact Or.inl rfl | exact Or.inr rfl
      case s => rfl
      case f => first | exact Or.inl rfl | exact Or.inr rfl
      case e => exact (pe_op op_add_str (pe_op op_add_str (pe_op op_add_str (pe_op op_add_str (pv 1) pe_str) (pv 2)) pe_str) (pe_fn f_law_rule_written (hr.mono (by first | decide | omega)) (by rfl) (pa_cons (pv 3) pa_nil)))
    case h6 => exact (ps_ret (pv 1))
    try dsimp only [cxOf, Cx.nox, Cx.wish]
    rw [show L2.start ["net", "found", "name", "rule"] [V.ref a] = [some (.ref a), none, none, none] from rfl]
    repeat walk_at "vc"
    refine ⟨i_tyS, ?_⟩
    repeat walk_at "vc"
    refine i_join hi ?_ ?_
    · have z1 := sum_le (m := 8) ins fun n hn => (o.1 n hn).l8
      have e : (" " : Str).length = 1 := by decide +kernel
      rw [e]
      omega
    refine s_name ?_
    with_reducible refine seq_join (fun σ H' => σ = [some (.ref a), some (.str (mk (iT ins))), none, none] ∧ Same H H') (fun R hR => ?_) ?_
    · repeat walk_at "vc"
      refine ⟨by show 0 ≤ _; omega, fun p hp => ?_⟩
      generalize hE : upd H p _ = H1
      obtain ⟨S1, q1⟩ := upd_pair hp hE
      clear hE
      refine ⟨li, p, _, _, fun _ => true, rfl, rfl, SqL.of (S1 _ _ hi), SqL.of q1, fun j x y e1 e2 => by simp at e2, ?_⟩
      refine ⟨_, rfl, ?_⟩
      cases ins with
      | nil =>
        refine ifT rfl ?_
        repeat walk_at "vc"
        exact hR _ _ ⟨rfl, S1⟩
      | cons n r =>
        refine ifF (by simp) ?_
        refine s_next ?_
        have e : PySem.Txt.join " " (n :: r) = mk (iT (n :: r)) := mk_ext (join_JJ " " r n)
        exact hR _ _ ⟨by rw [← e]; rfl, S1⟩
    · rintro σ H1 ⟨rfl, S1⟩
      have ha1 := S1 _ _ ha
      have hg1 := S1 _ _ hg
      repeat walk_at "vc"
      refine ⟨lg, rfl, ⟨_, SqL.of hg1⟩, ?_⟩
      refine for_list (K := K) (xs := gvs) (fun m σ H' => (∃ x2 x3, σ = [some (.ref a), some (.str (mk (JJ [59, 32] (iT ins) ((gs.take m).map gT)))), x2, x3]) ∧ Same H1 H') ⟨⟨_, _, rfl⟩, Same.refl _⟩ (fun i σ H' _ pv => SqL.of (pv.2 _ _ hg1)) (fun m x σ H' hx pv => ?_) (fun σ H' pv => ?_)
      · obtain ⟨⟨x2, x3, rfl⟩, Sm⟩ := pv
        have hn : m < gvs.length := (List.getElem?_eq_some_iff.mp hx).1
        obtain ⟨g, e', b, rv, rfl, hb, hrr⟩ := paired_at gts m x hx
        obtain ⟨o1, o2, o3⟩ := o.2 g (List.mem_of_getElem? e')
        have S0 := S1.trans Sm
        refine ⟨b, _, rfl, SqT.of (S0 _ _ hb), rfl, ?_⟩
        refine ⟨_, _, rfl, s_name ⟨_, _, rfl, s_name ⟨rfl, ?_⟩⟩⟩
        have l1 : g.1.length ≤ 8 := o1.l8
        have l2 := rT_small o2 o3
        have lj : (JJ [59, 32] (iT ins) ((gs.take m).map gT)).length ≤ 300000 := by
          have z := JJ_len (Y := [59, 32]) (m := 13400) ((gs.take m).map gT) (iT ins) fun q hq => by
            rcases List.mem_cons.mp hq with e | hq
            · subst e; exact Nat.le_trans (iT_len o.1 ok.i4) (by decide)
            · obtain ⟨s, hs, rfl⟩ := List.mem_map.mp hq
              obtain ⟨a, b, c⟩ := o.2 s (List.mem_of_mem_take hs)
              exact gT_len a b c
          rw [List.length_map, List.length_take] at z
          have e : ([59, 32] : List Nat).length = 2 := rfl
          rw [e] at z
          have h2 : min m gs.length * (2 + 13400) ≤ 20 * (2 + 13400) := Nat.mul_le_mul_right _ (by omega)
          omega
        repeat walk_at "vc"
        refine ⟨_, _, rfl, rfl, by rw [mk_len]; show _ + 2 ≤ _; omega, ?_⟩
        repeat walk_at "vc"
        refine ⟨_, _, rfl, rfl, by rw [len_app, mk_len]; show _ + 2 + _ ≤ _; omega, ?_⟩
        repeat walk_at "vc"
        refine ⟨_, _, rfl, rfl, by rw [len_app, len_app, mk_len]; show _ + 2 + _ + 1 ≤ _; omega, ?_⟩
        repeat walk_at "vc"
        refine ⟨rv, g.2, rfl, hrr.mono (Same.tups S0), o3, o3, o2, fun H2 S2 => ?_⟩
        refine ⟨_, _, rfl, rfl, by rw [len_app, len_app, len_app, mk_len, mk_len]; show _ + 2 + _ + 1 + _ ≤ _; omega, ?_⟩
        refine s_name ?_
        refine ⟨⟨some (.str g.1), some rv, ?_⟩, Sm.trans S2⟩
        · rw [List.take_succ, e', Option.toList_some, List.map_append, List.map_cons, List.map_nil, JJ_snoc, ← txt_more]
          rfl
      · obtain ⟨⟨x2, x3, rfl⟩, Sm⟩ := pv
        repeat walk_at "vc"
        rw [gl, List.take_length]
        exact q H' (S1.trans Sm)
end
set_option Elab.async false
set_option linter.all false
set_option maxRecDepth 100000
set_option maxHeartbeats 4000000

inductive Al (H : Hp) : Nat → V → V → Prop where
  | str {n : Nat} {z : Str} : Al H (n + 1) (.str z) (.str z)
  | tup {n : Nat} {a b : Addr} {xs ys : List V} : H a = some (.tup xs) → H b = some (.tup ys) → xs.length = ys.length → ys.length ≤ 1000 → (∀ (j : Nat) x y, xs[j]? = some x → ys[j]? = some y → Al H n x y) → Al H (n + 1) (.ref a) (.ref b)
  | lst {n : Nat} {a b : Addr} {xs ys : List V} : H a = some (.lst xs) → H b = some (.lst ys) → xs.length = ys.length → ys.length ≤ 1000 → (∀ (j : Nat) x y, xs[j]? = some x → ys[j]? = some y → Al H n x y) → Al H (n + 1) (.ref a) (.ref b)
theorem Al.same {H H' : Hp} (S : Same H H') {n : Nat} {v u : V} (h : Al H n v u) : Al H' n v u := by
  induction h with
  | str => exact .str
  | tup h1 h2 h3 h4 _ ih => exact .tup (S _ _ h1) (S _ _ h2) h3 h4 ih
  | lst h1 h2 h3 h4 _ ih => exact .lst (S _ _ h1) (S _ _ h2) h3 h4 ih
theorem Al.eqd {K : PySem.W.Frag} {H : Hp} {n : Nat} {v u : V} (h : Al H n v u) : EqD K H n v u true := by
  induction h with
  | @str n z =>
    have h := EqD.flat (K := K) (H := H) (n := n + 1) (x := .str z) (y := .str z) rfl rfl
    have e : eqV (.str z) (.str z) = true := by simp [eqV]
    rw [e] at h
    exact h
  | @tup n a b xs ys h1 h2 h3 h4 _ ih =>
    by_cases c : a = b
    · subst c; exact .same
    · have h := EqD.tups (e := fun _ => true) (SqT.of h1) (SqT.of h2) (fun j x y e1 e2 => ih j x y e1 e2) c
      have e : ((List.range (min xs.length ys.length)).all (fun _ => true) && xs.length == ys.length) = true := by simp [h3]
      rw [e] at h
      exact h
  | @lst n a b xs ys h1 h2 h3 h4 _ ih =>
    by_cases c : a = b
    · subst c; exact .same
    · have h := EqD.lists (e := fun _ => true) (SqL.of h1) (SqL.of h2) h3 (fun j x y e1 e2 => ih j x y e1 e2) c
      have e : (List.range xs.length).all (fun _ => true) = true := by simp
      rw [e] at h
      exact h
theorem pairs2 {A : V → V → Prop} {x y u v : V} (h1 : A x u) (h2 : A y v) : ∀ (j : Nat) a b, [x, y][j]? = some a → [u, v][j]? = some b → A a b := fun j a b e1 e2 => by
  match j with
  | 0 => cases e1; cases e2; exact h1
  | 1 => cases e1; cases e2; exact h2
  | j + 2 => simp at e1
theorem pairs3 {A : V → V → Prop} {x y z u v t : V} (h1 : A x u) (h2 : A y v) (h3 : A z t) : ∀ (j : Nat) a b, [x, y, z][j]? = some a → [u, v, t][j]? = some b → A a b := fun j a b e1 e2 => by
  match j with
  | 0 => cases e1; cases e2; exact h1
  | 1 => cases e1; cases e2; exact h2
  | 2 => cases e1; cases e2; exact h3
  | j + 3 => simp at e1
theorem al_rule {H : Hp} {v : V} {r : Rl} (h : RAt H v r) : ∀ {u : V} {n : Nat}, RAt H u r → r.dep + 1 ≤ n → Al H n v u := by
  induction h with
  | @w a nm ha =>
    intro u n hu hn
    cases hu with
    | @w b _ hb =>
      obtain ⟨m, rfl⟩ : ∃ m, n = m + 1 + 1 := ⟨n - 2, by have : 1 + 1 ≤ n := hn; omega⟩
      exact .tup ha hb rfl (by simp) (pairs2 .str .str)
  | @no a x r1 ha _ ih =>
    intro u n hu hn
    cases hu with
    | @no b y _ hb h2 =>
      have hn : r1.dep + 1 + 1 ≤ n := hn
      obtain ⟨m, rfl⟩ : ∃ m, n = m + 1 + 1 := ⟨n - 2, by omega⟩
      exact .tup ha hb rfl (by simp) (pairs2 .str (ih h2 (by omega)))
  | @an a x y r1 r2 ha _ _ i1 i2 =>
    intro u n hu hn
    cases hu with
    | @an b s t _ _ hb h2 h3 =>
      have hn : max r1.dep r2.dep + 1 + 1 ≤ n := hn
      obtain ⟨m, rfl⟩ : ∃ m, n = m + 1 + 1 := ⟨n - 2, by omega⟩
      exact .tup ha hb rfl (by simp) (pairs3 .str (i1 h2 (by omega)) (i2 h3 (by omega)))
  | @orr a x y r1 r2 ha _ _ i1 i2 =>
    intro u n hu hn
    cases hu with
    | @orr b s t _ _ hb h2 h3 =>
      have hn : max r1.dep r2.dep + 1 + 1 ≤ n := hn
      obtain ⟨m, rfl⟩ : ∃ m, n = m + 1 + 1 := ⟨n - 2, by omega⟩
      exact .tup ha hb rfl (by simp) (pairs3 .str (i1 h2 (by omega)) (i2 h3 (by omega)))
theorem al_gate {H : Hp} {v u : V} {g : Str × Rl} (h1 : GAt H v g) (h2 : GAt H u g) (hd : g.2.dep ≤ 10) : Al H 12 v u := by
  obtain ⟨a, x, rfl, ha, hx⟩ := h1
  obtain ⟨b, y, rfl, hb, hy⟩ := h2
  exact .tup ha hb rfl (by simp) (pairs2 .str (al_rule hx hy (by omega)))
theorem al_gates {H : Hp} {gs : List (Str × Rl)} (hd : ∀ g ∈ gs, g.2.dep ≤ 10) {xs ys : List V} (h1 : Paired (GAt H) xs gs) (h2 : Paired (GAt H) ys gs) : ∀ (j : Nat) x y, xs[j]? = some x → ys[j]? = some y → Al H 12 x y := fun j x y e1 e2 => by
  obtain ⟨g, eg, a1⟩ := paired_at h1 j x e1
  obtain ⟨g2, eg2, a2⟩ := paired_at h2 j y e2
  rw [eg] at eg2
  cases eg2
  exact al_gate a1 a2 (hd g (List.mem_of_getElem? eg))
theorem al_strs {H : Hp} {n : Nat} (ns : List Str) : ∀ (j : Nat) x y, (ns.map V.str)[j]? = some x → (ns.map V.str)[j]? = some y → Al H (n + 1) x y := fun j x y e1 e2 => by
  rw [e1] at e2
  cases e2
  rw [List.getElem?_map] at e1
  cases h : ns[j]? with
  | none => rw [h] at e1; cases e1
  | some z => rw [h] at e1; cases e1; exact .str
theorem al_snoc {A : V → V → Prop} {xs ys : List V} {x y : V} (hl : xs.length = ys.length) (h : ∀ (j : Nat) a b, xs[j]? = some a → ys[j]? = some b → A a b) (h1 : A x y) : ∀ (j : Nat) a b, (xs ++ [x])[j]? = some a → (ys ++ [y])[j]? = some b → A a b := fun j a b e1 e2 => by
  by_cases c : j < xs.length
  · rw [List.getElem?_append_left c] at e1
    rw [List.getElem?_append_left (by omega)] at e2
    exact h j a b e1 e2
  · rw [List.getElem?_append_right (by omega)] at e1 e2
    rw [← hl] at e2
    cases hj : j - xs.length with
    | zero => rw [hj] at e1 e2; cases e1; cases e2; exact h1
    | succ k => rw [hj] at e1; simp at e1
theorem al_net {H : Hp} {a li lg a' li' lg' : Addr} {ins : List Str} {xs ys : List V} {gs : List (Str × Rl)} (h1 : NAt H a li lg ins xs gs) (h2 : NAt H a' li' lg' ins ys gs) (ok : NetOk ins gs) : Al H 14 (.ref a) (.ref a') := by
  have l1 := paired_len h1.gates
  have l2 := paired_len h2.gates
  have i4 := ok.i4
  have g7 := ok.g7
  exact .tup h1.ha h2.ha rfl (by simp) (pairs2 (.lst h1.hi h2.hi rfl (by rw [List.length_map]; omega) (al_strs ins)) (.lst h1.hg h2.hg (by omega) (by omega) (al_gates (fun g hg => (ok.rules g hg).2) h1.gates h2.gates)))
noncomputable def spAlike (d : Nat) : Sp := fun vs H Q _ => ∃ (v u : V), vs = [v, u] ∧ Al H d v u ∧ ∀ H', Same H H' → Q (.bl true) H'
section
variable {P : Program} {w : World} {K : PySem.W.Frag} {mg : Str → Option Value} {base : Heap} {TT : Addr}
noncomputable def Sq (H : Hp) (a : Addr) (xs : List V) : Prop := H a = some (.tup xs) ∨ H a = some (.lst xs)
theorem Sq.same {H H' : Hp} {a : Addr} {xs : List V} (h : Sq H a xs) (S : Same H H') : Sq H' a xs := h.imp (S _ _) (S _ _)
theorem Sq.len {H : Hp} {a : Addr} {xs : List V} (h : Sq H a xs) : SqL K H a xs ∨ SqT K H a xs := h.symm.imp SqL.of SqT.of
theorem i_sq {H : Hp} {a : Addr} {xs : List V} {i : Int} {v : V} {Q : VK} (h : Sq H a xs) (e : atI xs i = some v) (q : Q v H) : rIxT K (.ref a) (.int i) H Q ∨ rIxL K (.ref a) (.int i) H Q := by
  rcases h with h | h
  · exact .inl ⟨a, xs, i, v, rfl, rfl, SqT.of h, e, q⟩
  · exact .inr ⟨a, xs, i, v, rfl, rfl, SqL.of h, e, q⟩
theorem sc_law_alike : FnScope ["found", "due"] ["found", "due"] (defScope (top 39)) := ⟨rfl, rfl, rfl, by decide +kernel, rfl, by decide +kernel, by decide +kernel⟩
theorem ok_alike {f : Addr} {fd : FuncData} (Fu : Fun K "_law_alike" "_law_alike" (top 39) f fd) (T : Txt K mg TT) (hm : mg "_law_alike" = some (.ref f)) (hk : PySem.W.keepIn K (.ref f) = true) (hb : Binds K fd ["found", "due"] []) : ∀ d, FnOk P w K mg base CX0 d f fd ["found", "due"] (spAlike d)
  | 0 => fnok_false fun vs H Q E ⟨v, u, _, h, _⟩ => nomatch h
  | d + 1 => by
    have S := sc_law_alike
    have f_law_alike : Fn P w K mg base "_law_alike" ["found", "due"] d (spAlike d) := ⟨f, fd, ok_alike Fu T hm hk hb d, hm, hk, hb⟩
    refine Fu.ok S (fun vs H Q E h => ?_) (fun cdv A outer s H vs Q E hr h => ?_)
    · obtain ⟨v, u, rfl, _⟩ := h
      rfl
    · obtain ⟨v, u, rfl, al, q⟩ := h
      have big : 1000000 < sizeLine := by decide
      refine' ⟨?_, (pss_cons (ps_if ?h0 (pss_one ?h1) pss_nil) (pss_cons (ps_if ?h2 (pss_cons (ps_if ?h3 (pss_one ?h4) pss_nil) (pss_cons (ps_if ?h5 (pss_one ?h6) pss_nil) (pss_one ?h7))) pss_nil) (pss_cons (ps_if ?h8 (pss_one ?h9) pss_nil) (pss_one ?h10)))), ?_⟩
      case h0 => exact (pt_cmpR op_isN (pv 1) pe_non rfl)
      case h1 => exact (ps_ret (pe_cmpR op_isN (pv 0) pe_non rfl))
      case h2 => exact (PW.pt (pw_or (pt_val (pe_callB call_isinst (by rfl) T.n_isinstance PyProof.Rows.boot_isinstance (pa_cons (pv 1) (pa_cons (pe_bltn (v := .ty "tuple") (by rfl) T.n_tuple PyProof.Rows.boot_tuple rfl) pa_nil)))) (pw_or1 (pt_val (pe_callB call_isinst (by rfl) T.n_isinstance PyProof.Rows.boot_isinstance (pa_cons (pv 1) (pa_cons (pe_bltn (v := .ty "list") (by rfl) T.n_list PyProof.Rows.boot_list rfl) pa_nil)))))))
      case h3 => exact (PW.pt (pw_or (pt_cmpR op_ne (pe_callB call_isinst (by rfl) T.n_isinstance PyProof.Rows.boot_isinstance (pa_cons (pv 0) (pa_cons (pe_bltn (v := .ty "tuple") (by rfl) T.n_tuple PyProof.Rows.boot_tuple rfl) pa_nil))) (pe_callB call_isinst (by rfl) T.n_isinstance PyProof.Rows.boot_isinstance (pa_cons (pv 1) (pa_cons (pe_bltn (v := .ty "tuple") (by rfl) T.n_tuple PyProof.Rows.boot_tuple rfl) pa_nil))) (nomark _)) (pw_or1 (pt_cmpR op_ne (pe_callB call_isinst (by rfl) T.n_isinstance PyProof.Rows.boot_isinstance (pa_cons (pv 0) (pa_cons (pe_bltn (v := .ty "list") (by rfl) T.n_list PyProof.Rows.boot_list rfl) pa_nil))) (pe_callB call_isinst (by rfl) T.n_isinstance PyProof.Rows.boot_isinstance (pa_cons (pv 1) (pa_cons (pe_bltn (v := .ty "list") (by rfl) T.n_list PyProof.Rows.boot_list rfl) pa_nil))) (nomark _)))))
      case h4 => exact (ps_ret pe_bl)
      case h5 => exact (pt_cmpR op_ne (pe_callB call_len_seq (by rfl) T.n_len PySem.boot_len (pa_cons (pv 0) pa_nil)) (pe_callB call_len_seq (by rfl) T.n_len PySem.boot_len (pa_cons (pv 1) pa_nil)) (nomark _))
      case h6 => exact (ps_ret pe_bl)
      case h7 => exact (ps_ret (pe_cmpR (op_eqL hr.units) (pe_lc (tgs := ["k"]) (cap := [("found", 0), ("due", 1)]) rfl ⟨rfl, rfl, rfl, rfl, rfl, rfl⟩ (pi_range1 (by rfl) T.n_range (pa_cons (pe_callB call_len_seq (by rfl) T.n_len PySem.boot_len (pa_cons (pv 1) pa_nil)) pa_nil)) (fun _ _ _ _ => (pg_name (i := 0) (show List.Nodup [("k" : Str), ("found" : Str), ("due" : Str)] by decide +kernel) rfl (by first | exact Or.inl rfl | exact Or.inr rfl))) (fun _ _ _ _ => (pifs_one (pt_not (pt_val (pe_fn f_law_alike (hr.mono (by first | decide | omega)) (by rfl) (pa_cons (pe_ix (ix_seqK (K := K) rfl) (pv 1) (pv 0) (fun _ _ => rfl)) (pa_cons (pe_ix (ix_seqK (K := K) rfl) (pv 2) (pv 0) (fun _ _ => rfl)) pa_nil))))))) (fun _ _ _ _ => (pv 0))) (pe_lst pa_nil) (nomark _)))
      case h8 => exact (pt_val (pe_callB call_isinst (by rfl) T.n_isinstance PyProof.Rows.boot_isinstance (pa_cons (pv 1) (pa_cons (pe_bltn (v := .ty "str") (by rfl) T.n_str PyProof.Rows.boot_str rfl) pa_nil))))
      case h9 => exact (ps_ret (pe_and (pe_callB call_isinst (by rfl) T.n_isinstance PyProof.Rows.boot_isinstance (pa_cons (pv 0) (pa_cons (pe_bltn (v := .ty "str") (by rfl) T.n_str PyProof.Rows.boot_str rfl) pa_nil))) (pe_one (pe_cmpR op_eq (pv 0) (pv 1) (nomark _)))))
      case h10 => exact ps_never
      try dsimp only [cxOf, Cx.nox, Cx.wish]
      rw [show L2.start ["found", "due"] [v, u] = [some v, some u] from rfl]
      have last : ∀ {a b : Addr} {xs ys : List V}, v = .ref a → u = .ref b → Sq H a xs → Sq H b ys → xs.length = ys.length → ys.length ≤ 1000 → (∀ (j : Nat) x y, xs[j]? = some x → ys[j]? = some y → Al H d x y) → ∀ {D' : Ends}, D'.rt = Q →
          tSeq (tIfS (tTest (tOp rNe (tCB (fun xs H Q => ∃ p ys, xs = [V.ref p] ∧ (SqL K H p ys ∨ SqT K H p ys) ∧ Q (V.int ↑ys.length) H) (tCons (tVar 0) tNil)) (tCB (fun xs H Q => ∃ p ys, xs = [V.ref p] ∧ (SqL K H p ys ∨ SqT K H p ys) ∧ Q (V.int ↑ys.length) H) (tCons (tVar 1) tNil)))) (tRet (tC (V.bl false))) tNext)
            (tRet (tOp (rEqL K false) (tComp (iRng1 (tCons (tCB (fun xs H Q => ∃ p ys, xs = [V.ref p] ∧ (SqL K H p ys ∨ SqT K H p ys) ∧ Q (V.int ↑ys.length) H) (tCons (tVar 1) tNil)) tNil)) (gName 0) (tNot (tTest (tCall (spAlike d) [] E0 (tCons (tOp (fun x y H Q => rIxT K x y H Q ∨ rIxL K x y H Q) (tVar 1) (tVar 0)) (tCons (tOp (fun x y H Q => rIxT K x y H Q ∨ rIxL K x y H Q) (tVar 2) (tVar 0)) tNil))))) (tVar 0) (blockSt ["k"] [("found", 0), ("due", 1)])) (tLst tNil))) D' [some v, some u] H := by
        intro a b xs ys e1 e2 h1 h2 hl h1000 it D' hD
        subst e1 e2
        repeat walk_at "vc"
        refine ⟨a, xs, rfl, h1.len, ?_⟩
        repeat walk_at "vc"
        refine ⟨b, ys, rfl, h2.len, ?_⟩
        repeat walk_at "vc"
        refine ifF (by rw [hl]; simp) ?_
        refine s_next ?_
        dsimp only
        refine s_ret ?_
        rw [hD]
        refine i_op ?_
        refine i_comp ?_
        repeat walk_at "vc"
        refine ⟨b, ys, rfl, h2.len, ?_⟩
        repeat walk_at "vc"
        refine ⟨by omega, by omega, fun L hL => ?_⟩
        rw [Int.toNat_natCast]
        refine comp_rangeT (n := ys.length) (fun m H' zs => Same H H' ∧ H' L = some (.lst []) ∧ zs = []) ⟨fresh_same hL, upd_same, rfl⟩ (fun i H' zs p => by rw [p.2.2]; exact p.2.1) (fun i H' zs hi p => ?_) (fun H' zs p => ?_)
        · obtain ⟨Sm, hd, rfl⟩ := p
          refine s_name ⟨by repeat' (first | exact trivial | refine ⟨rfl, ?_⟩), ?_⟩
          have e1 : atI xs (0 + (i : Int)) = some (xs[i]'(by omega)) := by
            have := atI_nat (List.getElem?_eq_getElem (l := xs) (i := i) (by omega))
            rw [Int.zero_add]; exact this
          have e2 : atI ys (0 + (i : Int)) = some ys[i] := by
            have := atI_nat (List.getElem?_eq_getElem hi)
            rw [Int.zero_add]; exact this
          refine i_not (i_test (i_call ?_))
          refine i_cons (i_op (i_var rfl (i_var rfl (i_sq (h1.same Sm) e1 ?_))))
          refine i_cons (i_op (i_var rfl (i_var rfl (i_sq (h2.same Sm) e2 ?_))))
          refine i_nil ⟨_, _, rfl, (it i _ _ (List.getElem?_eq_getElem (by omega)) (List.getElem?_eq_getElem hi)).same Sm, fun H2 S2 => ?_⟩
          refine ⟨true, rfl, iteF ?_⟩
          exact ⟨ys.length - (i + 1), by omega, rfl, by omega, Sm.trans S2, S2 _ _ hd, rfl⟩
        · obtain ⟨Sm, hd, rfl⟩ := p
          repeat walk_at "vc"
          refine ⟨by show 0 ≤ _; omega, fun p2 hp2 => ?_⟩
          generalize hE : upd H' p2 _ = H2
          obtain ⟨S2, q2⟩ := upd_pair hp2 hE
          clear hE
          refine ⟨L, p2, _, _, fun _ => true, rfl, rfl, SqL.of (S2 _ _ hd), SqL.of q2, fun j x y e1 e2 => by simp at e2, ?_⟩
          exact q H2 (Sm.trans S2)
      cases al with
      | @str _ z =>
        repeat walk_at "vc"
        refine ⟨rfl, ?_⟩
        repeat walk_at "vc"
        refine ifF (by simp) ?_
        repeat walk_at "vc"
        refine ⟨_, _, _, _, rfl, TyOf.str z, kit_st, ?_⟩
        refine ⟨_, rfl, iteF ?_⟩
        repeat walk_at "vc"
        refine ⟨_, _, _, _, rfl, TyOf.str z, kit_sl, ?_⟩
        refine ⟨_, rfl, iteF ?_⟩
        repeat walk_at "vc"
        refine ⟨_, _, _, _, rfl, TyOf.str z, kit_same "str", ?_⟩
        refine ⟨_, rfl, iteT ?_⟩
        repeat walk_at "vc"
        refine ⟨_, _, _, _, rfl, TyOf.str z, kit_same "str", ?_⟩
        refine ⟨_, rfl, iteT ?_⟩
        repeat walk_at "vc"
        have e : decide (V.str z = V.str z) = true := by simp
        rw [e]
        exact q H (Same.refl H)
      | @tup _ a b xs ys h1 h2 hl h1000 it =>
        repeat walk_at "vc"
        refine ⟨rfl, ?_⟩
        repeat walk_at "vc"
        refine ifF (by simp) ?_
        repeat walk_at "vc"
        refine ⟨_, _, _, _, rfl, .tup h2, kit_same "tuple", ?_⟩
        refine ⟨_, rfl, iteT ?_⟩
        repeat walk_at "vc"
        refine ⟨_, _, _, _, rfl, .tup h1, kit_same "tuple", ?_⟩
        repeat walk_at "vc"
        refine ⟨_, _, _, _, rfl, .tup h2, kit_same "tuple", ?_⟩
        repeat walk_at "vc"
        refine ifF (by decide) ?_
        repeat walk_at "vc"
        refine ⟨_, _, _, _, rfl, .tup h1, kit_tl, ?_⟩
        repeat walk_at "vc"
        refine ⟨_, _, _, _, rfl, .tup h2, kit_tl, ?_⟩
        repeat walk_at "vc"
        refine ifF (by decide) ?_
        refine s_next ?_
        exact last rfl rfl (.inl h1) (.inl h2) hl h1000 it rfl
      | @lst _ a b xs ys h1 h2 hl h1000 it =>
        repeat walk_at "vc"
        refine ⟨rfl, ?_⟩
        repeat walk_at "vc"
        refine ifF (by simp) ?_
        repeat walk_at "vc"
        refine ⟨_, _, _, _, rfl, .lst h2, kit_lt, ?_⟩
        refine ⟨_, rfl, iteF ?_⟩
        repeat walk_at "vc"
        refine ⟨_, _, _, _, rfl, .lst h2, kit_same "list", ?_⟩
        refine ⟨_, rfl, iteT ?_⟩
        repeat walk_at "vc"
        refine ⟨_, _, _, _, rfl, .lst h1, kit_lt, ?_⟩
        repeat walk_at "vc"
        refine ⟨_, _, _, _, rfl, .lst h2, kit_lt, ?_⟩
        repeat walk_at "vc"
        refine ifF (by decide) ?_
        repeat walk_at "vc"
        refine ⟨_, _, _, _, rfl, .lst h1, kit_same "list", ?_⟩
        repeat walk_at "vc"
        refine ⟨_, _, _, _, rfl, .lst h2, kit_same "list", ?_⟩
        repeat walk_at "vc"
        refine ifF (by decide) ?_
        refine s_next ?_
        exact last rfl rfl (.inr h1) (.inr h2) hl h1000 it rfl
end
set_option Elab.async false
set_option linter.all false
set_option maxRecDepth 100000
set_option maxHeartbeats 4000000

noncomputable def spLaw (K : PySem.W.Frag) : Sp := fun vs H Q _ => ∃ (a : Addr) (ns : List Int), vs = [.ref a] ∧ SqL K H a (ns.map V.int) ∧ ns.length ≤ 63 ∧ ∀ H', Q (.bl true) H'
theorem Al.le {H : Hp} {n : Nat} {v u : V} (h : Al H n v u) : ∀ {m : Nat}, n ≤ m → Al H m v u := by
  induction h with
  | str =>
    intro m hm
    obtain ⟨k, rfl⟩ : ∃ k, m = k + 1 := ⟨m - 1, by omega⟩
    exact .str
  | tup h1 h2 h3 h4 _ ih =>
    intro m hm
    obtain ⟨k, rfl⟩ : ∃ k, m = k + 1 := ⟨m - 1, by omega⟩
    exact .tup h1 h2 h3 h4 fun j x y e1 e2 => ih j x y e1 e2 (by omega)
  | lst h1 h2 h3 h4 _ ih =>
    intro m hm
    obtain ⟨k, rfl⟩ : ∃ k, m = k + 1 := ⟨m - 1, by omega⟩
    exact .lst h1 h2 h3 h4 fun j x y e1 e2 => ih j x y e1 e2 (by omega)
theorem kp_same {D : Dk} {H H1 H2 : Hp} (S : Same H H1) (hD : H D.d = none) (k : Kp D H1 H2) : Same H H2 := fun b o e => k.old b o (S _ _ e) fun z => by
  have z : b = D.d := z
  rw [z, hD] at e
  cases e
theorem eqd_items {K : PySem.W.Frag} {H : Hp} {n : Nat} {a b : Addr} {xs : List V} (h1 : H a = some (.lst xs)) (h2 : H b = some (.lst xs)) (hx : ∀ x ∈ xs, (∃ p, x = V.ref p) ∨ ∃ z, x = V.str z) : EqD K H (n + 1) (.ref a) (.ref b) true := by
  by_cases c : a = b
  · subst c; exact .same
  · have h := EqD.lists (K := K) (n := n) (e := fun _ => true) (SqL.of h1) (SqL.of h2) rfl (fun j x y e1 e2 => by
      rw [e1] at e2
      cases e2
      rcases hx x (List.mem_of_getElem? e1) with ⟨p, rfl⟩ | ⟨z, rfl⟩
      · exact .same
      · have h := EqD.flat (K := K) (H := H) (n := n) (x := .str z) (y := .str z) rfl rfl
        have e : eqV (.str z) (.str z) = true := by simp [eqV]
        rw [e] at h
        exact h) c
    have e : (List.range xs.length).all (fun _ => true) = true := by simp
    rw [e] at h
    exact h
section
variable {P : Program} {w : World} {K : PySem.W.Frag} {mg : Str → Option Value} {base : Heap} {TT : Addr}
theorem sc_law : FnScope ["script", "k", "net", "due", "handed", "found", "told"] ["script"] (defScope (top 40)) := ⟨rfl, rfl, rfl, by decide +kernel, rfl, by decide +kernel, by decide +kernel⟩
theorem ok_law80 {f : Addr} {fd : FuncData} (Fu : Fun K "law" "law" (top 40) f fd) (T : Txt K mg TT) (f_law_cell_at : Fn P w K mg base "_law_cell_at" ["script", "k"] 1 (spCellAt K)) (f_law_deck : Fn P w K mg base "_law_deck" ["cell", "many"] 2 spNums) (f_law_net : Fn P w K mg base "_law_net" ["deck", "deepest"] 12 spNetW)
    (f_law_net_written : Fn P w K mg base "_law_net_written" ["net"] 11 spWritN) (f_show_net : Fn P w K mg base "show_net" ["net"] 11 spShowN) (f_read_net : Fn P w K mg base "read_net" ["text"] 23 spReadN) (f_law_alike : Fn P w K mg base "_law_alike" ["found", "due"] 14 (spAlike 14)) : FnOk P w K mg base CX0 24 f fd ["script"] (spLaw K) := by
  have S := sc_law
  refine Fu.ok S (fun vs H Q E h => ?_) (fun cdv A outer s H vs Q E hr h => ?_)
  · obtain ⟨a, ns, rfl, _⟩ := h
    rfl
  · obtain ⟨sc, ns, rfl, hS, n63, q⟩ := h
    have big : 1000000 < sizeLine := by decide
    refine' ⟨?_, ?bb, ?_⟩
    case bb =>
      refine' pss_cons ?s1 ?r1
      case s1 =>
        refine' ps_for PassesOwn.never rfl ?i2 ?g2 ?b2 ?h2
        case h2 => intro _; rfl
        case i2 => exact (pi_range1 (by rfl) T.n_range (pa_cons (pe_callB (call_max2 rfl) (by rfl) T.n_max PyProof.Rows.boot_max (pa_cons pe_int (pa_cons (pe_callB (call_min2 rfl) (by rfl) T.n_min PyProof.Rows.boot_min (pa_cons (pe_callB call_len_seq (by rfl) T.n_len PySem.boot_len (pa_cons (pv 0) pa_nil)) (pa_cons pe_int pa_nil))) pa_nil))) pa_nil))
        case g2 => exact (pg_name (i := 1) S.nd rfl (by first | exact Or.inl rfl | exact Or.inr rfl))
        case b2 =>
          with_reducible refine' pss_cons ?s3 ?r3
          case s3 =>
            refine' ps_set (i := 2) ?n ?r ?l ?e ?s ?f
            case n => exact S.nd
            case r => rfl
            case l => first | exact Or.inl rfl | exact Or.inr rfl
            case s => rfl
            case f => first | exact Or.inl rfl | exact Or.inr rfl
            case e => exact (pe_fn f_law_net (hr.mono (by first | decide | omega)) (by rfl) (pa_cons (pe_fn f_law_deck (hr.mono (by first | decide | omega)) (by rfl) (pa_cons (pe_fn f_law_cell_at (hr.mono (by first | decide | omega)) (by rfl) (pa_cons (pv 0) (pa_cons (pv 1) pa_nil))) (pa_cons pe_int pa_nil))) (pa_cons pe_int pa_nil)))
          case r3 =>
            with_reducible refine' pss_cons ?s5 ?r5
            case s5 =>
              refine' ps_set (i := 3) ?n ?r ?l ?e ?s ?f
              case n => exact S.nd
              case r => rfl
              case l => first | exact Or.inl rfl | exact Or.inr rfl
              case s => rfl
              case f => first | exact Or.inl rfl | exact Or.inr rfl
              case e => exact (pe_fn f_law_net_written (hr.mono (by first | decide | omega)) (by rfl) (pa_cons (pv 2) pa_nil))
            case r5 =>
              with_reducible refine' pss_cons ?s7 ?r7
              case s7 =>
                refine' ps_set (i := 4) ?n ?r ?l ?e ?s ?f
                case n => exact S.nd
                case r => rfl
                case l => first | exact Or.inl rfl | exact Or.inr rfl
                case s => rfl
                case f => first | exact Or.inl rfl | exact Or.inr rfl
                case e => exact (pe_tup (pa_cons (pe_callTy call_list_of (by rfl) T.n_list PyProof.Rows.boot_list (pa_cons (pe_ix ix_tup (pv 2) pe_int (fun _ _ => rfl)) pa_nil)) (pa_cons (pe_callTy call_list_of (by rfl) T.n_list PyProof.Rows.boot_list (pa_cons (pe_ix ix_tup (pv 2) pe_int (fun _ _ => rfl)) pa_nil)) pa_nil)))
              case r7 =>
                with_reducible refine' pss_cons ?s9 ?r9
                case s9 =>
                  refine' ps_set (i := 5) ?n ?r ?l ?e ?s ?f
                  case n => exact S.nd
                  case r => rfl
                  case l => first | exact Or.inl rfl | exact Or.inr rfl
                  case s => rfl
                  case f => first | exact Or.inl rfl | exact Or.inr rfl
                  case e => exact (pe_fn f_show_net (hr.mono (by first | decide | omega)) (by rfl) (pa_cons (pv 4) pa_nil))
                case r9 =>
                  with_reducible refine' pss_cons ?s11 ?r11
                  case s11 =>
                    with_reducible refine' ps_if ?c12 ?a12 ?o12
                    case c12 => exact (PW.pt (pw_or (pt_not (pt_val (pe_callB call_isinst (by rfl) T.n_isinstance PyProof.Rows.boot_isinstance (pa_cons (pv 5) (pa_cons (pe_bltn (v := .ty "str") (by rfl) T.n_str PyProof.Rows.boot_str rfl) pa_nil))))) (pw_or (pt_cmpR op_ne (pv 5) (pv 3) (nomark _)) (pw_or1 (pt_cmpR (op_neT hr.units) (pv 4) (pv 2) (nomark _))))))
                    case a12 =>
                      with_reducible refine' pss_one ?s13
                      case s13 =>
                        exact (ps_ret pe_bl)
                    case o12 =>
                      exact pss_nil
                  case r11 =>
                    with_reducible refine' pss_cons ?s15 ?r15
                    case s15 =>
                      refine' ps_set (i := 6) ?n ?r ?l ?e ?s ?f
                      case n => exact S.nd
                      case r => rfl
                      case l => first | exact Or.inl rfl | exact Or.inr rfl
                      case s => rfl
                      case f => first | exact Or.inl rfl | exact Or.inr rfl
                      case e => exact (pe_fn f_read_net (hr.mono (by first | decide | omega)) (by rfl) (pa_cons (pv 3) pa_nil))
                    case r15 =>
                      with_reducible refine' pss_cons ?s17 ?r17
                      case s17 =>
                        with_reducible refine' ps_if ?c18 ?a18 ?o18
                        case c18 => exact (pt_not (pt_val (pe_fn f_law_alike (hr.mono (by first | decide | omega)) (by rfl) (pa_cons (pv 6) (pa_cons (pv 2) pa_nil)))))
                        case a18 =>
                          with_reducible refine' pss_one ?s19
                          case s19 =>
                            exact (ps_ret pe_bl)
                        case o18 =>
                          exact pss_nil
                      case r17 =>
                        with_reducible refine' pss_cons ?s21 ?r21
                        case s21 =>
                          exact (ps_expr (pe_bm PySem.F.plainAttrs_list PySem.F.slot_list_append PySem.F.type_list_append mt_append (pe_ix ix_tup (pv 6) pe_int (fun _ _ => rfl)) (pa_cons pe_str pa_nil)))
                        case r21 =>
                          with_reducible refine' pss_cons ?s23 ?r23
                          case s23 =>
                            exact (ps_expr (pe_bm PySem.F.plainAttrs_list PySem.F.slot_list_append PySem.F.type_list_append mt_append (pe_ix ix_tup (pv 6) pe_int (fun _ _ => rfl)) (pa_cons pe_str pa_nil)))
                          case r23 =>
                            with_reducible refine' pss_cons ?s25 ?r25
                            case s25 =>
                              with_reducible refine' ps_if ?c26 ?a26 ?o26
                              case c26 => exact (pt_cmpR (op_neT30 hr.units) (pv 6) (pe_tup (pa_cons (pe_op op_cat (pe_ix ix_tup (pv 2) pe_int (fun _ _ => rfl)) (pe_lst (pa_cons pe_str pa_nil))) (pa_cons (pe_op op_cat (pe_ix ix_tup (pv 2) pe_int (fun _ _ => rfl)) (pe_lst (pa_cons pe_str pa_nil))) pa_nil))) (nomark _))
                              case a26 =>
                                with_reducible refine' pss_one ?s27
                                case s27 =>
                                  exact (ps_ret pe_bl)
                              case o26 =>
                                exact pss_nil
                            case r25 =>
                              with_reducible refine' pss_one ?s29
                              case s29 =>
                                with_reducible refine' ps_if ?c30 ?a30 ?o30
                                case c30 => exact (PW.pt (pw_or (pt_not (pt_val (pe_fn f_law_alike (hr.mono (by first | decide | omega)) (by rfl) (pa_cons (pe_fn f_read_net (hr.mono (by first | decide | omega)) (by rfl) (pa_cons (pv 3) pa_nil)) (pa_cons (pv 2) pa_nil))))) (pw_or1 (pt_cmpR op_ne (pe_fn f_show_net (hr.mono (by first | decide | omega)) (by rfl) (pa_cons (pv 4) pa_nil)) (pv 3) (nomark _)))))
                                case a30 =>
                                  with_reducible refine' pss_one ?s31
                                  case s31 =>
                                    exact (ps_ret pe_bl)
                                case o30 =>
                                  exact pss_nil
      case r1 =>
        with_reducible refine' pss_one ?s33
        case s33 =>
          exact (ps_ret pe_bl)
    try dsimp only [cxOf, Cx.nox, Cx.wish]
    rw [show L2.start ["script", "k", "net", "due", "handed", "found", "told"] [V.ref sc] = [some (.ref sc), none, none, none, none, none, none] from rfl]
    repeat walk_at "vc"
    refine ⟨sc, _, rfl, .inl hS, ?_⟩
    repeat walk_at "vc"
    refine ⟨_, _, rfl, ?_⟩
    repeat walk_at "vc"
    refine ⟨_, _, rfl, ?_⟩
    rw [List.length_map]
    obtain ⟨N, hN, N10⟩ : ∃ N : Nat, (if (if (10 : Int) < (ns.length : Int) then 10 else (ns.length : Int)) > 1 then (if (10 : Int) < (ns.length : Int) then 10 else (ns.length : Int)) else 1) = (N : Int) ∧ N ≤ 10 := by
      by_cases c : (10 : Int) < (ns.length : Int)
      · rw [if_pos c]
        exact ⟨10, by decide, by omega⟩
      · rw [if_neg c]
        by_cases c2 : (ns.length : Int) > 1
        · rw [if_pos c2]; exact ⟨ns.length, rfl, by omega⟩
        · rw [if_neg c2]; exact ⟨1, rfl, by omega⟩
    refine ⟨_, rfl, by rw [hN]; omega, by rw [hN]; omega, ?_⟩
    rw [hN, Int.toNat_natCast]
    refine for_range (n := N) (fun i σ H' => (∃ x1 x2 x3 x4 x5 x6, σ = [some (.ref sc), x1, x2, x3, x4, x5, x6]) ∧ Same H H') ⟨⟨_, _, _, _, _, _, rfl⟩, Same.refl H⟩ (fun i σ H0 hi pv => ?_) (fun σ H' pv => ?_)
    · obtain ⟨⟨x1, x2, x3, x4, x5, x6, rfl⟩, S0⟩ := pv
      refine s_name ?_
      repeat walk_at "vc"
      refine ⟨sc, ns, i, by rw [Int.zero_add], S0.seq hS, by omega, fun c => ?_⟩
      repeat walk_at "vc"
      refine ⟨c, 600, rfl, by omega, fun d xs H1 S1 hd h1 => ?_⟩
      repeat walk_at "vc"
      refine ⟨⟨d⟩, rfl, ⟨xs, h1⟩, fun a li lg ins gvs gs H2 k2 nli nlg nll NA ok isn => ?_⟩
      have S02 : Same H0 H2 := kp_same S1 hd k2
      have o := ok.low1
      have g7 := ok.g7
      have i4 := ok.i4
      have gl := paired_len NA.gates
      repeat walk_at "vc"
      refine ⟨a, li, lg, ins, gvs, gs, rfl, NA, ok, fun H3 S3 => ?_⟩
      have NA3 := NA.same S3
      have ha3 := NA3.ha
      have hi3 := NA3.hi
      have hg3 := NA3.hg
      repeat walk_at "vc"
      intro l1 hl1
      generalize hE : upd H3 l1 _ = H4
      obtain ⟨S4, q4⟩ := upd_pair hl1 hE
      clear hE
      have ha4 := S4 _ _ ha3
      have hg4 := S4 _ _ hg3
      repeat walk_at "vc"
      intro l2 hl2
      generalize hE : upd H4 l2 _ = H5
      obtain ⟨S5, q5⟩ := upd_pair hl2 hE
      clear hE
      repeat walk_at "vc"
      refine ⟨by show 2 ≤ _; omega, fun hn hhn => ?_⟩
      generalize hE : upd H5 hn _ = H6
      obtain ⟨S6, q6⟩ := upd_pair hhn hE
      clear hE
      have NH : NAt H6 hn l1 l2 ins gvs gs := ⟨q6, S6 _ _ (S5 _ _ q4), S6 _ _ q5, gates_mono (Same.tups (S4.trans (S5.trans S6))) NA3.gates⟩
      have NA6 := NA3.same (S4.trans (S5.trans S6))
      repeat walk_at "vc"
      refine ⟨hn, l1, l2, ins, gvs, gs, rfl, NH, ok, fun H7 S7 => ?_⟩
      have NH7 := NH.same S7
      have NA7 := NA6.same S7
      repeat walk_at "vc"
      refine ⟨_, _, _, _, rfl, TyOf.str _, kit_same "str", ?_⟩
      refine ⟨_, rfl, iteF ?_⟩
      repeat walk_at "vc"
      refine ifF (by simp) ?_
      repeat walk_at "vc"
      refine ⟨hn, a, _, _, fun _ => true, rfl, rfl, SqT.of NH7.ha, SqT.of NA7.ha, fun j x y e1 e2 => ?_, ?_⟩
      · exact pairs2 (A := fun x y => EqD K H7 8 x y true) (eqd_items NH7.hi NA7.hi fun x hx => .inr (let ⟨z, _, e⟩ := List.mem_map.mp hx; ⟨z, e.symm⟩)) (eqd_items NH7.hg NA7.hg fun x hx => .inl (gates_refs NA7.gates x hx)) j x y e1 e2
      refine ⟨_, rfl, ifF (by simp) ?_⟩
      repeat walk_at "vc"
      refine ⟨ins, gs, rfl, ok, isn, fun t ti tg tvs H8 S8 ht hti htg nt NT => ?_⟩
      have NA8 := NA7.same S8
      have NH8 := NH7.same S8
      repeat walk_at "vc"
      refine ⟨_, _, rfl, al_net NT NA8 ok, fun H9 S9 => ?_⟩
      refine ⟨_, rfl, iteF ?_⟩
      have NT9 := NT.same S9
      have NA9 := NA8.same S9
      have NH9 := NH8.same S9
      have tl := paired_len NT9.gates
      have ht9 := NT9.ha
      have hti9 := NT9.hi
      have htg9 := NT9.hg
      have ntt : t ≠ ti := ne_of ht9 hti9 (by intro z; cases z)
      have ntg : t ≠ tg := ne_of ht9 htg9 (by intro z; cases z)
      repeat walk_at "vc"
      refine i_app hti9 (by rw [List.length_map]; omega) ?_
      generalize hE : upd H9 ti _ = H10
      have q10 : H10 ti = some (.lst ((ins ++ [("x" : Str)]).map V.str)) := by rw [← hE, upd_same, List.map_append]; rfl
      have ht10 : H10 t = some (.tup [.ref ti, .ref tg]) := by rw [← hE, upd_ne ntt]; exact ht9
      have htg10 : H10 tg = some (.lst tvs) := by rw [← hE, upd_ne nt.symm]; exact htg9
      have S710 : Same H7 H10 := by rw [← hE]; exact same_upd (S8.trans S9) hti
      have kt10 : KeepT H9 H10 := fun b xs e => by rw [← hE, upd_ne]; exact e; intro z; subst z; rw [hti9] at e; cases e
      clear hE
      repeat walk_at "vc"
      refine i_app htg10 (by omega) ?_
      generalize hE : upd H10 tg _ = H11
      have q11 : H11 tg = some (.lst (tvs ++ [.str "y"])) := by rw [← hE, upd_same]
      have ht11 : H11 t = some (.tup [.ref ti, .ref tg]) := by rw [← hE, upd_ne ntg]; exact ht10
      have hti11 : H11 ti = some (.lst ((ins ++ [("x" : Str)]).map V.str)) := by rw [← hE, upd_ne nt]; exact q10
      have S711 : Same H7 H11 := by rw [← hE]; exact same_upd S710 htg
      have kt11 : KeepT H9 H11 := fun b xs e => by rw [← hE, upd_ne]; exact kt10 b xs e; intro z; subst z; rw [kt10 _ _ e] at htg10; cases htg10
      clear hE
      have NA11 := NA7.same S711
      have NH11 := NH7.same S711
      have gt11 := gates_mono kt11 NT9.gates
      have ha11 := NA11.ha
      have hi11 := NA11.hi
      have hg11 := NA11.hg
      repeat walk_at "vc"
      refine ⟨by show 1 ≤ _; omega, fun p12 hp12 => ?_⟩
      generalize hE : upd H11 p12 _ = H12
      obtain ⟨S12, q12⟩ := upd_pair hp12 hE
      clear hE
      refine i_cat (S12 _ _ hi11) q12 (by rw [List.length_map]; show _ + 1 ≤ _; omega) fun p13 hp13 => ?_
      generalize hE : upd H12 p13 _ = H13
      obtain ⟨S13, q13⟩ := upd_pair hp13 hE
      clear hE
      have ha13 := (S12.trans S13) _ _ ha11
      have hg13 := (S12.trans S13) _ _ hg11
      repeat walk_at "vc"
      refine ⟨by show 1 ≤ _; omega, fun p14 hp14 => ?_⟩
      generalize hE : upd H13 p14 _ = H14
      obtain ⟨S14, q14⟩ := upd_pair hp14 hE
      clear hE
      refine i_cat (S14 _ _ hg13) q14 (by show _ + 1 ≤ _; omega) fun p15 hp15 => ?_
      generalize hE : upd H14 p15 _ = H15
      obtain ⟨S15, q15⟩ := upd_pair hp15 hE
      clear hE
      repeat walk_at "vc"
      refine ⟨by show 2 ≤ _; omega, fun p16 hp16 => ?_⟩
      generalize hE : upd H15 p16 _ = H16
      obtain ⟨S16, q16⟩ := upd_pair hp16 hE
      clear hE
      have S1116 : Same H11 H16 := S12.trans (S13.trans (S14.trans (S15.trans S16)))
      have q13' : H16 p13 = some (.lst ((ins ++ [("x" : Str)]).map V.str)) := by rw [S16 _ _ (S15 _ _ (S14 _ _ q13)), List.map_append]; rfl
      have q15' : H16 p15 = some (.lst (gvs ++ [.str "y"])) := S16 _ _ q15
      refine ⟨t, p16, _, _, fun _ => true, rfl, rfl, SqT.of (S1116 _ _ ht11), SqT.of q16, fun j x y e1 e2 => ?_, ?_⟩
      · refine pairs2 (A := fun x y => EqD K H16 30 x y true) ?_ ?_ j x y e1 e2
        · exact eqd_items (S1116 _ _ hti11) q13' fun x hx => .inr (let ⟨z, _, e⟩ := List.mem_map.mp hx; ⟨z, e.symm⟩)
        · have al : ∀ (j : Nat) a b, (tvs ++ [V.str "y"])[j]? = some a → (gvs ++ [V.str "y"])[j]? = some b → Al H16 12 a b := al_snoc (by omega) (al_gates (fun g hg => (ok.rules g hg).2) (gates_mono (Same.tups S1116) gt11) (gates_mono (Same.tups S1116) NA11.gates)) .str
          exact (Al.lst (n := 29) (S1116 _ _ q11) q15' (by rw [List.length_append, List.length_append]; show _ + 1 = _ + 1; omega) (by rw [List.length_append]; show _ + 1 ≤ _; omega) fun j a b e1 e2 => (al j a b e1 e2).le (by omega)).eqd
      refine ⟨_, rfl, ifF (by simp) ?_⟩
      have S716 := S711.trans S1116
      have NA16 := NA7.same S716
      have NH16 := NH7.same S716
      repeat walk_at "vc"
      refine ⟨ins, gs, rfl, ok, isn, fun t2 ti2 tg2 tvs2 H17 S17 _ _ _ _ NT2 => ?_⟩
      repeat walk_at "vc"
      refine ⟨_, _, rfl, al_net NT2 (NA16.same S17) ok, fun H18 S18 => ?_⟩
      refine ⟨_, rfl, iteF ?_⟩
      repeat walk_at "vc"
      refine ⟨hn, l1, l2, ins, gvs, gs, rfl, (NH16.same S17).same S18, ok, fun H19 S19 => ?_⟩
      repeat walk_at "vc"
      refine ifF (by simp) ?_
      refine s_next ?_
      exact ⟨⟨_, _, _, _, _, _, rfl⟩, S0.trans (S02.trans (S3.trans (S4.trans (S5.trans (S6.trans (S7.trans (S716.trans (S17.trans (S18.trans S19)))))))))⟩
    · obtain ⟨⟨x1, x2, x3, x4, x5, x6, rfl⟩, S0⟩ := pv
      repeat walk_at "vc"
      exact q H'
end
end K2
set_option Elab.async false
set_option linter.all false
set_option maxRecDepth 100000
set_option maxHeartbeats 4000000
namespace K2
open PySem L2 PySem.Spec PyProof.Rows
theorem len_1 {A : Type} {us : List A} (h : us.length = 1) : ∃ a0, us = [a0] := by
  match us, h with
  | [a0], _ => exact ⟨_, rfl⟩
theorem len_2 {A : Type} {us : List A} (h : us.length = 2) : ∃ a0 a1, us = [a0, a1] := by
  match us, h with
  | [a0, a1], _ => exact ⟨_, _, rfl⟩
theorem len_3 {A : Type} {us : List A} (h : us.length = 3) : ∃ a0 a1 a2, us = [a0, a1, a2] := by
  match us, h with
  | [a0, a1, a2], _ => exact ⟨_, _, _, rfl⟩
theorem len_4 {A : Type} {us : List A} (h : us.length = 4) : ∃ a0 a1 a2 a3, us = [a0, a1, a2, a3] := by
  match us, h with
  | [a0, a1, a2, a3], _ => exact ⟨_, _, _, _, rfl⟩
theorem len_5 {A : Type} {us : List A} (h : us.length = 5) : ∃ a0 a1 a2 a3 a4, us = [a0, a1, a2, a3, a4] := by
  match us, h with
  | [a0, a1, a2, a3, a4], _ => exact ⟨_, _, _, _, _, rfl⟩
theorem len_6 {A : Type} {us : List A} (h : us.length = 6) : ∃ a0 a1 a2 a3 a4 a5, us = [a0, a1, a2, a3, a4, a5] := by
  match us, h with
  | [a0, a1, a2, a3, a4, a5], _ => exact ⟨_, _, _, _, _, _, rfl⟩
theorem all_mk {l : PySem.W.OpenLaw} {w : World} {K : PySem.W.Frag} {h : Heap} {mg : Str → Option Value} {fa TT f0 f1 f2 f3 f4 f5 f6 f7 f8 f9 f10 f11 f12 f13 f14 f15 f16 f17 f18 f19 f20 f21 f22 f23 f24 f25 f26 : Addr} (X : K.In h) (G : h.Ns mainGlobals mg) (hfa : mg "law" = some (.ref fa))
    {od0 an0 od1 an1 od2 an2 od3 an3 od4 an4 od5 an5 od6 an6 od7 an7 od8 an8 od9 an9 od10 an10 od11 an11 od12 an12 od13 an13 od14 an14 od15 an15 od16 an16 od17 an17 od18 an18 od19 an19 od20 an20 od21 an21 od22 an22 od23 an23 od24 an24 od25 an25 od26 an26 : Option Addr} {sl0 sl1 sl2 sl3 sl4 sl5 sl6 sl7 sl8 sl9 sl10 sl11 sl12 sl13 sl14 sl15 sl16 sl17 sl18 sl19 sl20 sl21 sl22 sl23 sl24 sl25 sl26 : Array (Option Value)} {oc0 kV0 dc0 pm0 cd0 ct0 oc1 kV1 dc1 pm1 cd1 ct1 oc2 kV2 dc2 pm2 cd2 ct2 oc3 kV3 dc3 pm3 cd3 ct3 oc4 kV4 dc4 pm4 cd4 ct4 oc5 kV5 dc5 pm5 cd5 ct5 oc6 kV6 dc6 pm6 cd6 ct6 oc7 kV7 dc7 pm7 cd7 ct7 oc8 kV8 dc8 pm8 cd8 ct8 oc9 kV9 dc9 pm9 cd9 ct9 oc10 kV10 dc10 pm10 cd10 ct10 oc11 kV11 dc11 pm11 cd11 ct11 oc12 kV12 dc12 pm12 cd12 ct12 oc13 kV13 dc13 pm13 cd13 ct13 oc14 kV14 dc14 pm14 cd14 ct14 oc15 kV15 dc15 pm15 cd15 ct15 oc16 kV16 dc16 pm16 cd16 ct16 oc17 kV17 dc17 pm17 cd17 ct17 oc18 kV18 dc18 pm18 cd18 ct18 oc19 kV19 dc19 pm19 cd19 ct19 oc20 kV20 dc20 pm20 cd20 ct20 oc21 kV21 dc21 pm21 cd21 ct21 oc22 kV22 dc22 pm22 cd22 ct22 oc23 kV23 dc23 pm23 cd23 ct23 oc24 kV24 dc24 pm24 cd24 ct24 oc25 kV25 dc25 pm25 cd25 ct25 oc26 kV26 dc26 pm26 cd26 ct26 : Value}
    (aT : PySem.W.nsIn K mainGlobals "PARTS_OF_RULE" = some (some (.ref TT))) (tab : tabAt K TT [("wire", .flat (.int 2)), ("not", .flat (.int 2)), ("and", .flat (.int 3)), ("or", .flat (.int 3))])
    (a0 : PySem.W.nsIn K mainGlobals "is_name" = some (some (.ref f0))) (l0 : K.lookup f0 = some ⟨oc0, od0, .func (PySem.W.fnOf "is_name" "is_name" (defArgs (top 10)) (defBody (top 10)) (defScope (top 10)) .none kV0 dc0 pm0 an0 cd0 ct0), sl0⟩) (c0 : PySem.W.codeIn K cd0 "is_name" = true) (k0 : PySem.W.keepIn K (.ref f0) = true)
    (a1 : PySem.W.nsIn K mainGlobals "is_rule" = some (some (.ref f1))) (l1 : K.lookup f1 = some ⟨oc1, od1, .func (PySem.W.fnOf "is_rule" "is_rule" (defArgs (top 11)) (defBody (top 11)) (defScope (top 11)) .none kV1 dc1 pm1 an1 cd1 ct1), sl1⟩) (c1 : PySem.W.codeIn K cd1 "is_rule" = true) (k1 : PySem.W.keepIn K (.ref f1) = true)
    (a2 : PySem.W.nsIn K mainGlobals "is_pair" = some (some (.ref f2))) (l2 : K.lookup f2 = some ⟨oc2, od2, .func (PySem.W.fnOf "is_pair" "is_pair" (defArgs (top 12)) (defBody (top 12)) (defScope (top 12)) .none kV2 dc2 pm2 an2 cd2 ct2), sl2⟩) (c2 : PySem.W.codeIn K cd2 "is_pair" = true) (k2 : PySem.W.keepIn K (.ref f2) = true)
    (a3 : PySem.W.nsIn K mainGlobals "are_unlike_names" = some (some (.ref f3))) (l3 : K.lookup f3 = some ⟨oc3, od3, .func (PySem.W.fnOf "are_unlike_names" "are_unlike_names" (defArgs (top 13)) (defBody (top 13)) (defScope (top 13)) .none kV3 dc3 pm3 an3 cd3 ct3), sl3⟩) (c3 : PySem.W.codeIn K cd3 "are_unlike_names" = true) (k3 : PySem.W.keepIn K (.ref f3) = true)
    (a4 : PySem.W.nsIn K mainGlobals "is_net" = some (some (.ref f4))) (l4 : K.lookup f4 = some ⟨oc4, od4, .func (PySem.W.fnOf "is_net" "is_net" (defArgs (top 14)) (defBody (top 14)) (defScope (top 14)) .none kV4 dc4 pm4 an4 cd4 ct4), sl4⟩) (c4 : PySem.W.codeIn K cd4 "is_net" = true) (k4 : PySem.W.keepIn K (.ref f4) = true)
    (a5 : PySem.W.nsIn K mainGlobals "gates_of" = some (some (.ref f5))) (l5 : K.lookup f5 = some ⟨oc5, od5, .func (PySem.W.fnOf "gates_of" "gates_of" (defArgs (top 15)) (defBody (top 15)) (defScope (top 15)) .none kV5 dc5 pm5 an5 cd5 ct5), sl5⟩) (c5 : PySem.W.codeIn K cd5 "gates_of" = true) (k5 : PySem.W.keepIn K (.ref f5) = true)
    (a6 : PySem.W.nsIn K mainGlobals "wires_of" = some (some (.ref f6))) (l6 : K.lookup f6 = some ⟨oc6, od6, .func (PySem.W.fnOf "wires_of" "wires_of" (defArgs (top 16)) (defBody (top 16)) (defScope (top 16)) .none kV6 dc6 pm6 an6 cd6 ct6), sl6⟩) (c6 : PySem.W.codeIn K cd6 "wires_of" = true) (k6 : PySem.W.keepIn K (.ref f6) = true)
    (a7 : PySem.W.nsIn K mainGlobals "show_rule" = some (some (.ref f7))) (l7 : K.lookup f7 = some ⟨oc7, od7, .func (PySem.W.fnOf "show_rule" "show_rule" (defArgs (top 20)) (defBody (top 20)) (defScope (top 20)) .none kV7 dc7 pm7 an7 cd7 ct7), sl7⟩) (c7 : PySem.W.codeIn K cd7 "show_rule" = true) (k7 : PySem.W.keepIn K (.ref f7) = true)
    (a8 : PySem.W.nsIn K mainGlobals "show_inputs" = some (some (.ref f8))) (l8 : K.lookup f8 = some ⟨oc8, od8, .func (PySem.W.fnOf "show_inputs" "show_inputs" (defArgs (top 21)) (defBody (top 21)) (defScope (top 21)) .none kV8 dc8 pm8 an8 cd8 ct8), sl8⟩) (c8 : PySem.W.codeIn K cd8 "show_inputs" = true) (k8 : PySem.W.keepIn K (.ref f8) = true)
    (a9 : PySem.W.nsIn K mainGlobals "show_net" = some (some (.ref f9))) (l9 : K.lookup f9 = some ⟨oc9, od9, .func (PySem.W.fnOf "show_net" "show_net" (defArgs (top 22)) (defBody (top 22)) (defScope (top 22)) .none kV9 dc9 pm9 an9 cd9 ct9), sl9⟩) (c9 : PySem.W.codeIn K cd9 "show_net" = true) (k9 : PySem.W.keepIn K (.ref f9) = true)
    (a10 : PySem.W.nsIn K mainGlobals "read_inputs" = some (some (.ref f10))) (l10 : K.lookup f10 = some ⟨oc10, od10, .func (PySem.W.fnOf "read_inputs" "read_inputs" (defArgs (top 23)) (defBody (top 23)) (defScope (top 23)) .none kV10 dc10 pm10 an10 cd10 ct10), sl10⟩) (c10 : PySem.W.codeIn K cd10 "read_inputs" = true) (k10 : PySem.W.keepIn K (.ref f10) = true)
    (a11 : PySem.W.nsIn K mainGlobals "read_wire" = some (some (.ref f11))) (l11 : K.lookup f11 = some ⟨oc11, od11, .func (PySem.W.fnOf "read_wire" "read_wire" (defArgs (top 24)) (defBody (top 24)) (defScope (top 24)) .none kV11 dc11 pm11 an11 cd11 ct11), sl11⟩) (c11 : PySem.W.codeIn K cd11 "read_wire" = true) (k11 : PySem.W.keepIn K (.ref f11) = true)
    (a12 : PySem.W.nsIn K mainGlobals "read_two" = some (some (.ref f12))) (l12 : K.lookup f12 = some ⟨oc12, od12, .func (PySem.W.fnOf "read_two" "read_two" (defArgs (top 25)) (defBody (top 25)) (defScope (top 25)) .none kV12 dc12 pm12 an12 cd12 ct12), sl12⟩) (c12 : PySem.W.codeIn K cd12 "read_two" = true) (k12 : PySem.W.keepIn K (.ref f12) = true)
    (a13 : PySem.W.nsIn K mainGlobals "read_rule" = some (some (.ref f13))) (l13 : K.lookup f13 = some ⟨oc13, od13, .func (PySem.W.fnOf "read_rule" "read_rule" (defArgs (top 26)) (defBody (top 26)) (defScope (top 26)) .none kV13 dc13 pm13 an13 cd13 ct13), sl13⟩) (c13 : PySem.W.codeIn K cd13 "read_rule" = true) (k13 : PySem.W.keepIn K (.ref f13) = true)
    (a14 : PySem.W.nsIn K mainGlobals "read_gate" = some (some (.ref f14))) (l14 : K.lookup f14 = some ⟨oc14, od14, .func (PySem.W.fnOf "read_gate" "read_gate" (defArgs (top 27)) (defBody (top 27)) (defScope (top 27)) .none kV14 dc14 pm14 an14 cd14 ct14), sl14⟩) (c14 : PySem.W.codeIn K cd14 "read_gate" = true) (k14 : PySem.W.keepIn K (.ref f14) = true)
    (a15 : PySem.W.nsIn K mainGlobals "read_net" = some (some (.ref f15))) (l15 : K.lookup f15 = some ⟨oc15, od15, .func (PySem.W.fnOf "read_net" "read_net" (defArgs (top 28)) (defBody (top 28)) (defScope (top 28)) .none kV15 dc15 pm15 an15 cd15 ct15), sl15⟩) (c15 : PySem.W.codeIn K cd15 "read_net" = true) (k15 : PySem.W.keepIn K (.ref f15) = true)
    (a16 : PySem.W.nsIn K mainGlobals "_law_cell_at" = some (some (.ref f16))) (l16 : K.lookup f16 = some ⟨oc16, od16, .func (PySem.W.fnOf "_law_cell_at" "_law_cell_at" (defArgs (top 30)) (defBody (top 30)) (defScope (top 30)) .none kV16 dc16 pm16 an16 cd16 ct16), sl16⟩) (c16 : PySem.W.codeIn K cd16 "_law_cell_at" = true) (k16 : PySem.W.keepIn K (.ref f16) = true)
    (a17 : PySem.W.nsIn K mainGlobals "_law_numbers" = some (some (.ref f17))) (l17 : K.lookup f17 = some ⟨oc17, od17, .func (PySem.W.fnOf "_law_numbers" "_law_numbers" (defArgs (top 31)) (defBody (top 31)) (defScope (top 31)) .none kV17 dc17 pm17 an17 cd17 ct17), sl17⟩) (c17 : PySem.W.codeIn K cd17 "_law_numbers" = true) (k17 : PySem.W.keepIn K (.ref f17) = true)
    (a18 : PySem.W.nsIn K mainGlobals "_law_deck" = some (some (.ref f18))) (l18 : K.lookup f18 = some ⟨oc18, od18, .func (PySem.W.fnOf "_law_deck" "_law_deck" (defArgs (top 32)) (defBody (top 32)) (defScope (top 32)) .none kV18 dc18 pm18 an18 cd18 ct18), sl18⟩) (c18 : PySem.W.codeIn K cd18 "_law_deck" = true) (k18 : PySem.W.keepIn K (.ref f18) = true)
    (a19 : PySem.W.nsIn K mainGlobals "_law_take" = some (some (.ref f19))) (l19 : K.lookup f19 = some ⟨oc19, od19, .func (PySem.W.fnOf "_law_take" "_law_take" (defArgs (top 33)) (defBody (top 33)) (defScope (top 33)) .none kV19 dc19 pm19 an19 cd19 ct19), sl19⟩) (c19 : PySem.W.codeIn K cd19 "_law_take" = true) (k19 : PySem.W.keepIn K (.ref f19) = true)
    (a20 : PySem.W.nsIn K mainGlobals "_law_wire_names" = some (some (.ref f20))) (l20 : K.lookup f20 = some ⟨oc20, od20, .func (PySem.W.fnOf "_law_wire_names" "_law_wire_names" (defArgs (top 34)) (defBody (top 34)) (defScope (top 34)) .none kV20 dc20 pm20 an20 cd20 ct20), sl20⟩) (c20 : PySem.W.codeIn K cd20 "_law_wire_names" = true) (k20 : PySem.W.keepIn K (.ref f20) = true)
    (a21 : PySem.W.nsIn K mainGlobals "_law_rule" = some (some (.ref f21))) (l21 : K.lookup f21 = some ⟨oc21, od21, .func (PySem.W.fnOf "_law_rule" "_law_rule" (defArgs (top 35)) (defBody (top 35)) (defScope (top 35)) .none kV21 dc21 pm21 an21 cd21 ct21), sl21⟩) (c21 : PySem.W.codeIn K cd21 "_law_rule" = true) (k21 : PySem.W.keepIn K (.ref f21) = true)
    (a22 : PySem.W.nsIn K mainGlobals "_law_net" = some (some (.ref f22))) (l22 : K.lookup f22 = some ⟨oc22, od22, .func (PySem.W.fnOf "_law_net" "_law_net" (defArgs (top 36)) (defBody (top 36)) (defScope (top 36)) .none kV22 dc22 pm22 an22 cd22 ct22), sl22⟩) (c22 : PySem.W.codeIn K cd22 "_law_net" = true) (k22 : PySem.W.keepIn K (.ref f22) = true)
    (a23 : PySem.W.nsIn K mainGlobals "_law_rule_written" = some (some (.ref f23))) (l23 : K.lookup f23 = some ⟨oc23, od23, .func (PySem.W.fnOf "_law_rule_written" "_law_rule_written" (defArgs (top 37)) (defBody (top 37)) (defScope (top 37)) .none kV23 dc23 pm23 an23 cd23 ct23), sl23⟩) (c23 : PySem.W.codeIn K cd23 "_law_rule_written" = true) (k23 : PySem.W.keepIn K (.ref f23) = true)
    (a24 : PySem.W.nsIn K mainGlobals "_law_net_written" = some (some (.ref f24))) (l24 : K.lookup f24 = some ⟨oc24, od24, .func (PySem.W.fnOf "_law_net_written" "_law_net_written" (defArgs (top 38)) (defBody (top 38)) (defScope (top 38)) .none kV24 dc24 pm24 an24 cd24 ct24), sl24⟩) (c24 : PySem.W.codeIn K cd24 "_law_net_written" = true) (k24 : PySem.W.keepIn K (.ref f24) = true)
    (a25 : PySem.W.nsIn K mainGlobals "_law_alike" = some (some (.ref f25))) (l25 : K.lookup f25 = some ⟨oc25, od25, .func (PySem.W.fnOf "_law_alike" "_law_alike" (defArgs (top 39)) (defBody (top 39)) (defScope (top 39)) .none kV25 dc25 pm25 an25 cd25 ct25), sl25⟩) (c25 : PySem.W.codeIn K cd25 "_law_alike" = true) (k25 : PySem.W.keepIn K (.ref f25) = true)
    (a26 : PySem.W.nsIn K mainGlobals "law" = some (some (.ref f26))) (l26 : K.lookup f26 = some ⟨oc26, od26, .func (PySem.W.fnOf "law" "law" (defArgs (top 40)) (defBody (top 40)) (defScope (top 40)) .none kV26 dc26 pm26 an26 cd26 ct26), sl26⟩) (c26 : PySem.W.codeIn K cd26 "law" = true) (k26 : PySem.W.keepIn K (.ref f26) = true)
    {tk0 tk1 tk2 tk3 tk4 : Tok}
    {TB TK : Addr}
    (cn0 : PySem.W.nsIn K mainGlobals "LETTERS" = some (some (.str "abcdefghijklmnopqrstuvwxyz" tk0)))
    (cn1 : PySem.W.nsIn K mainGlobals "MOST_LETTERS" = some (some (.int 8 tk1)))
    (cn2 : PySem.W.nsIn K mainGlobals "MOST_RULES_WITHIN" = some (some (.int 10 tk2)))
    (cn3 : PySem.W.nsIn K mainGlobals "MOST_INPUTS" = some (some (.int 4 tk3)))
    (cn4 : PySem.W.nsIn K mainGlobals "MOST_GATES" = some (some (.int 7 tk4)))
    (aB : PySem.W.nsIn K mainGlobals "BETWEEN" = some (some (.ref TB)))
    (tabB : tabAt K TB betD)
    (aK : PySem.W.nsIn K mainGlobals "KINDS" = some (some (.ref TK)))
    (tabK : tabAt K TK kinD)
    (z0 : PySem.W.nsIn K mainGlobals "len" = some none)
    (z1 : PySem.W.nsIn K mainGlobals "range" = some none)
    (z2 : PySem.W.nsIn K mainGlobals "max" = some none)
    (z3 : PySem.W.nsIn K mainGlobals "min" = some none)
    (z4 : PySem.W.nsIn K mainGlobals "int" = some none)
    (z5 : PySem.W.nsIn K mainGlobals "list" = some none)
    (z6 : PySem.W.nsIn K mainGlobals "str" = some none)
    (z7 : PySem.W.nsIn K mainGlobals "isinstance" = some none)
    (z8 : PySem.W.nsIn K mainGlobals "all" = some none)
    (z9 : PySem.W.nsIn K mainGlobals "tuple" = some none)
    (z10 : PySem.W.nsIn K mainGlobals "set" = some none)
    : ∃ fd : FuncData, (∀ (s : Shared) (v : Value), BindsTo s fd ⟨[v], []⟩ [("script", v)]) ∧ ∀ base : Heap, K.In base → base.Ns mainGlobals mg → FnOk l.prog w K mg base CX0 24 fa fd ["script"] (spLaw K) := by
  have e := hfa.symm.trans (PySem.W.mg_of X G a26)
  cases e
  have T : Txt K mg TT := ⟨PySem.W.mg_none_of X G z0, PySem.W.mg_none_of X G z1, PySem.W.mg_none_of X G z2, PySem.W.mg_none_of X G z3, PySem.W.mg_none_of X G z4, PySem.W.mg_none_of X G z5, PySem.W.mg_none_of X G z6, PySem.W.mg_none_of X G z7, PySem.W.mg_none_of X G z8, PySem.W.mg_none_of X G z9, PySem.W.mg_none_of X G z10, ⟨_, PySem.W.mg_of X G cn0⟩, ⟨_, PySem.W.mg_of X G cn1⟩, ⟨_, PySem.W.mg_of X G cn2⟩, ⟨_, PySem.W.mg_of X G cn3⟩, ⟨_, PySem.W.mg_of X G cn4⟩, PySem.W.mg_of X G aT, tab, ⟨TB, PySem.W.mg_of X G aB, tabB⟩, ⟨TK, PySem.W.mg_of X G aK, tabK⟩⟩
  have F0 := fun_mk (st := top 10) l0 c0 k0
  have b0 := F0.binds (ps := ["thing"]) fun _ _ _ _ _ _ us hl => by obtain ⟨_, rfl⟩ := len_1 hl; rfl
  have m0 := PySem.W.mg_of X G a0
  have F1 := fun_mk (st := top 11) l1 c1 k1
  have b1 := F1.binds (ps := ["thing", "wires", "depth"]) fun _ _ _ _ _ _ us hl => by obtain ⟨_, _, _, rfl⟩ := len_3 hl; rfl
  have m1 := PySem.W.mg_of X G a1
  have F2 := fun_mk (st := top 12) l2 c2 k2
  have b2 := F2.binds (ps := ["thing"]) fun _ _ _ _ _ _ us hl => by obtain ⟨_, rfl⟩ := len_1 hl; rfl
  have m2 := PySem.W.mg_of X G a2
  have F3 := fun_mk (st := top 13) l3 c3 k3
  have b3 := F3.binds (ps := ["things"]) fun _ _ _ _ _ _ us hl => by obtain ⟨_, rfl⟩ := len_1 hl; rfl
  have m3 := PySem.W.mg_of X G a3
  have F4 := fun_mk (st := top 14) l4 c4 k4
  have b4 := F4.binds (ps := ["thing"]) fun _ _ _ _ _ _ us hl => by obtain ⟨_, rfl⟩ := len_1 hl; rfl
  have m4 := PySem.W.mg_of X G a4
  have F5 := fun_mk (st := top 15) l5 c5 k5
  have b5 := F5.binds (ps := ["net"]) fun _ _ _ _ _ _ us hl => by obtain ⟨_, rfl⟩ := len_1 hl; rfl
  have m5 := PySem.W.mg_of X G a5
  have F6 := fun_mk (st := top 16) l6 c6 k6
  have b6 := F6.binds (ps := ["net"]) fun _ _ _ _ _ _ us hl => by obtain ⟨_, rfl⟩ := len_1 hl; rfl
  have m6 := PySem.W.mg_of X G a6
  have F7 := fun_mk (st := top 20) l7 c7 k7
  have b7 := F7.binds (ps := ["rule"]) fun _ _ _ _ _ _ us hl => by obtain ⟨_, rfl⟩ := len_1 hl; rfl
  have m7 := PySem.W.mg_of X G a7
  have F8 := fun_mk (st := top 21) l8 c8 k8
  have b8 := F8.binds (ps := ["inputs"]) fun _ _ _ _ _ _ us hl => by obtain ⟨_, rfl⟩ := len_1 hl; rfl
  have m8 := PySem.W.mg_of X G a8
  have F9 := fun_mk (st := top 22) l9 c9 k9
  have b9 := F9.binds (ps := ["net"]) fun _ _ _ _ _ _ us hl => by obtain ⟨_, rfl⟩ := len_1 hl; rfl
  have m9 := PySem.W.mg_of X G a9
  have F10 := fun_mk (st := top 23) l10 c10 k10
  have b10 := F10.binds (ps := ["text"]) fun _ _ _ _ _ _ us hl => by obtain ⟨_, rfl⟩ := len_1 hl; rfl
  have m10 := PySem.W.mg_of X G a10
  have F11 := fun_mk (st := top 24) l11 c11 k11
  have b11 := F11.binds (ps := ["text", "at"]) fun _ _ _ _ _ _ us hl => by obtain ⟨_, _, rfl⟩ := len_2 hl; rfl
  have m11 := PySem.W.mg_of X G a11
  have F12 := fun_mk (st := top 25) l12 c12 k12
  have b12 := F12.binds (ps := ["text", "at", "depth"]) fun _ _ _ _ _ _ us hl => by obtain ⟨_, _, _, rfl⟩ := len_3 hl; rfl
  have m12 := PySem.W.mg_of X G a12
  have F13 := fun_mk (st := top 26) l13 c13 k13
  have b13 := F13.binds (ps := ["text", "at", "depth"]) fun _ _ _ _ _ _ us hl => by obtain ⟨_, _, _, rfl⟩ := len_3 hl; rfl
  have m13 := PySem.W.mg_of X G a13
  have F14 := fun_mk (st := top 27) l14 c14 k14
  have b14 := F14.binds (ps := ["text"]) fun _ _ _ _ _ _ us hl => by obtain ⟨_, rfl⟩ := len_1 hl; rfl
  have m14 := PySem.W.mg_of X G a14
  have F15 := fun_mk (st := top 28) l15 c15 k15
  have b15 := F15.binds (ps := ["text"]) fun _ _ _ _ _ _ us hl => by obtain ⟨_, rfl⟩ := len_1 hl; rfl
  have m15 := PySem.W.mg_of X G a15
  have F16 := fun_mk (st := top 30) l16 c16 k16
  have b16 := F16.binds (ps := ["script", "k"]) fun _ _ _ _ _ _ us hl => by obtain ⟨_, _, rfl⟩ := len_2 hl; rfl
  have m16 := PySem.W.mg_of X G a16
  have F17 := fun_mk (st := top 31) l17 c17 k17
  have b17 := F17.binds (ps := ["cell", "many"]) fun _ _ _ _ _ _ us hl => by obtain ⟨_, _, rfl⟩ := len_2 hl; rfl
  have m17 := PySem.W.mg_of X G a17
  have F18 := fun_mk (st := top 32) l18 c18 k18
  have b18 := F18.binds (ps := ["cell", "many"]) fun _ _ _ _ _ _ us hl => by obtain ⟨_, _, rfl⟩ := len_2 hl; rfl
  have m18 := PySem.W.mg_of X G a18
  have F19 := fun_mk (st := top 33) l19 c19 k19
  have b19 := F19.binds (ps := ["deck", "many"]) fun _ _ _ _ _ _ us hl => by obtain ⟨_, _, rfl⟩ := len_2 hl; rfl
  have m19 := PySem.W.mg_of X G a19
  have F20 := fun_mk (st := top 34) l20 c20 k20
  have b20 := F20.binds (ps := ["deck", "many"]) fun _ _ _ _ _ _ us hl => by obtain ⟨_, _, rfl⟩ := len_2 hl; rfl
  have m20 := PySem.W.mg_of X G a20
  have F21 := fun_mk (st := top 35) l21 c21 k21
  have b21 := F21.binds (ps := ["deck", "names", "deep"]) fun _ _ _ _ _ _ us hl => by obtain ⟨_, _, _, rfl⟩ := len_3 hl; rfl
  have m21 := PySem.W.mg_of X G a21
  have F22 := fun_mk (st := top 36) l22 c22 k22
  have b22 := F22.binds (ps := ["deck", "deepest"]) fun _ _ _ _ _ _ us hl => by obtain ⟨_, _, rfl⟩ := len_2 hl; rfl
  have m22 := PySem.W.mg_of X G a22
  have F23 := fun_mk (st := top 37) l23 c23 k23
  have b23 := F23.binds (ps := ["rule"]) fun _ _ _ _ _ _ us hl => by obtain ⟨_, rfl⟩ := len_1 hl; rfl
  have m23 := PySem.W.mg_of X G a23
  have F24 := fun_mk (st := top 38) l24 c24 k24
  have b24 := F24.binds (ps := ["net"]) fun _ _ _ _ _ _ us hl => by obtain ⟨_, rfl⟩ := len_1 hl; rfl
  have m24 := PySem.W.mg_of X G a24
  have F25 := fun_mk (st := top 39) l25 c25 k25
  have b25 := F25.binds (ps := ["found", "due"]) fun _ _ _ _ _ _ us hl => by obtain ⟨_, _, rfl⟩ := len_2 hl; rfl
  have m25 := PySem.W.mg_of X G a25
  have F26 := fun_mk (st := top 40) l26 c26 k26
  have b26 := F26.binds (ps := ["script"]) fun _ _ _ _ _ _ us hl => by obtain ⟨_, rfl⟩ := len_1 hl; rfl
  have m26 := PySem.W.mg_of X G a26
  refine ⟨PySem.W.fnOf "law" "law" (defArgs (top 40)) (defBody (top 40)) (defScope (top 40)) .none kV26 dc26 pm26 an26 cd26 ct26, fun s v => .of_eq rfl, fun base _ _ => ?_⟩
  have g16 : Fn l.prog w K mg base "_law_cell_at" ["script", "k"] 1 (spCellAt K) := ⟨f16, _, ok_cellat F16 T, m16, k16, b16⟩
  have g17 : Fn l.prog w K mg base "_law_numbers" ["cell", "many"] 1 spNums := ⟨f17, _, ok_nums F17 T, m17, k17, b17⟩
  have g18 : Fn l.prog w K mg base "_law_deck" ["cell", "many"] 2 spNums := ⟨f18, _, ok_deck F18 T g17, m18, k18, b18⟩
  have g19 : Fn l.prog w K mg base "_law_take" ["deck", "many"] 1 spDraw := ⟨f19, _, ok_take F19 T, m19, k19, b19⟩
  have g20 : Fn l.prog w K mg base "_law_wire_names" ["deck", "many"] 2 spNamesW := ⟨f20, _, ok_namesW F20 T g19, m20, k20, b20⟩
  have g21 : Fn l.prog w K mg base "_law_rule" ["deck", "names", "deep"] 11 (spRuleW 10) := ⟨f21, _, ok_ruleW F21 T g19 m21 k21 b21 10, m21, k21, b21⟩
  have g22 : Fn l.prog w K mg base "_law_net" ["deck", "deepest"] 12 spNetW := ⟨f22, _, ok_netW F22 T g19 g20 g21, m22, k22, b22⟩
  have g23 : Fn l.prog w K mg base "_law_rule_written" ["rule"] 10 (spShowR 10) := ⟨f23, _, ok_writr F23 T m23 k23 b23 10, m23, k23, b23⟩
  have g24 : Fn l.prog w K mg base "_law_net_written" ["net"] 11 spWritN := ⟨f24, _, ok_writn F24 T g23, m24, k24, b24⟩
  have g8 : Fn l.prog w K mg base "show_inputs" ["inputs"] 1 spShowI := ⟨f8, _, ok_showi F8 T, m8, k8, b8⟩
  have g7 : Fn l.prog w K mg base "show_rule" ["rule"] 10 (spShowR 10) := ⟨f7, _, ok_showr F7 T m7 k7 b7 10, m7, k7, b7⟩
  have g9 : Fn l.prog w K mg base "show_net" ["net"] 11 spShowN := ⟨f9, _, ok_shown F9 T g8 g7, m9, k9, b9⟩
  have g10 : Fn l.prog w K mg base "read_inputs" ["text"] 1 spReadI := ⟨f10, _, ok_readi F10 T, m10, k10, b10⟩
  have g11 : Fn l.prog w K mg base "read_wire" ["text", "at"] 1 spReadW := ⟨f11, _, ok_readw F11 T, m11, k11, b11⟩
  have g13 : Fn l.prog w K mg base "read_rule" ["text", "at", "depth"] 21 (spReadR 10) := ⟨f13, _, ok_read F13 T m13 k13 b13 F12 m12 k12 b12 g11 10, m13, k13, b13⟩
  have g14 : Fn l.prog w K mg base "read_gate" ["text"] 22 spReadG := ⟨f14, _, ok_readg F14 T g13, m14, k14, b14⟩
  have g2 : Fn l.prog w K mg base "is_pair" ["thing"] 1 spPair := ⟨f2, _, ok_pair F2 T, m2, k2, b2⟩
  have g5 : Fn l.prog w K mg base "gates_of" ["net"] 1 spGates := ⟨f5, _, ok_gates F5 T, m5, k5, b5⟩
  have g6 : Fn l.prog w K mg base "wires_of" ["net"] 2 spWires := ⟨f6, _, ok_wires F6 T g5, m6, k6, b6⟩
  have g0 : Fn l.prog w K mg base "is_name" ["thing"] 1 spName := ⟨f0, _, ok_name F0 T, m0, k0, b0⟩
  have g3 : Fn l.prog w K mg base "are_unlike_names" ["things"] 2 spUnlike := ⟨f3, _, ok_unlike F3 T g0, m3, k3, b3⟩
  have g1 : Fn l.prog w K mg base "is_rule" ["thing", "wires", "depth"] 10 (spRuleOk 10) := ⟨f1, _, ok_isrule F1 T m1 k1 b1 10, m1, k1, b1⟩
  have g4 : Fn l.prog w K mg base "is_net" ["thing"] 11 spIsNet := ⟨f4, _, ok_isnet F4 T g2 g6 g3 g1, m4, k4, b4⟩
  have g15 : Fn l.prog w K mg base "read_net" ["text"] 23 spReadN := ⟨f15, _, ok_readn F15 T g10 g14 g4 g9, m15, k15, b15⟩
  have g25 : Fn l.prog w K mg base "_law_alike" ["found", "due"] 14 (spAlike 14) := ⟨f25, _, ok_alike F25 T m25 k25 b25 14, m25, k25, b25⟩
  exact ok_law80 F26 T g16 g18 g22 g24 g9 g15 g25
theorem walk {l : PySem.W.OpenLaw} {q : Program} {loose : List Str} {XP : (Str → Option Value) → Heap → Prop} {YP : World → Heap → Prop} {d : DefRec} {K : Params → PySem.W.Frag} (hn : l.most = some 63) (hdf : d.params.defaults = [])
    (hY : ∀ (w : World) (h : Heap), YP w h → (K w.params).In h)
    (F : ∀ (w : World) (mg : Str → Option Value) (fa : Addr) (h : Heap), (K w.params).In h → h.Ns mainGlobals mg → mg d.name = some (.ref fa) →
      ∃ fd : FuncData, (∀ (s : Shared) (u : Value), BindsTo s fd ⟨[u], []⟩ [("script", u)]) ∧ ∀ base : Heap, (K w.params).In base → base.Ns mainGlobals mg → FnOk l.prog w (K w.params) mg base CX0 24 fa fd ["script"] (spLaw (K w.params))) :
    PySem.W.WalkO q loose XP YP l.row.toRowW d [] (fun f vs => PySem.call f vs) :=
  L2.walk_of (n := 63) (k := 24) (x := "script") (CX := fun _ => CX0) (sp := fun w => spLaw (K w.params)) hn (by decide) hdf ⟨rfl, by decide, by decide⟩ hY F (fun _ _ a ns hl _ hS => ⟨a, ns, rfl, hS, hl, fun _ => rfl⟩) fun _ _ _ _ _ z => z
theorem walkX {q : Program} {loose : List Str} {XP : (Str → Option Value) → Heap → Prop} {K : Params → PySem.W.Frag} {as : List Addr} {n t : Nat} {r : PySem.W.RowW} {d : DefRec} {kwd : List (Str × Expr)} {run : Value → List Value → Sem Value}
    (e : ∀ P, as = (K P).map (·.1)) (W : PySem.W.WalkO q loose XP (PySem.W.InK K) r d kwd run) : PySem.W.WalkX q loose XP (PySem.W.X.obsZ as) (PySem.W.X.valZ K n t) r d kwd run := by
  intro w s₀ s₁ mg mb G y a o pm cd doc dV kV h1 h2 h3 h4 h5 h6 args vals as' L p1 p2 p3 p4 p5
  exact W w s₀ s₁ mg mb G (PySem.W.InK.keeps _ _ _ (PySem.W.X.z_facts e y).2.1 L.keeps) a o pm cd doc dV kV h1 h2 h3 h4 h5 h6 args vals as' p1 p2 p3 p4 p5
end K2
open PySem PySem.W PyProof.Rows
set_option maxRecDepth 100000 in
set_option maxHeartbeats 0 in
theorem PySem.Challenge.cw_anydelay_k80_nets_written_and_read_holds : PySem.Challenge.rw_anydelay_k80_nets_written_and_read.Holds := by
  w_on; o_law; z_head; (case hw => w_witness2)
  k_fill
  refine K2.walkX (fun _ => by kernel_rfl) ?W
  case W =>
   refine K2.walk (l := PySem.Challenge.rw_anydelay_k80_nets_written_and_read) rfl rfl (fun w h Y => Y) ?F
   case F =>
    intro w mg fa h KX G hmg
    refine' K2.all_mk KX G hmg ?aT ?tab ?a0 ?l0 ?c0 ?k0 ?a1 ?l1 ?c1 ?k1 ?a2 ?l2 ?c2 ?k2 ?a3 ?l3 ?c3 ?k3 ?a4 ?l4 ?c4 ?k4 ?a5 ?l5 ?c5 ?k5 ?a6 ?l6 ?c6 ?k6 ?a7 ?l7 ?c7 ?k7 ?a8 ?l8 ?c8 ?k8 ?a9 ?l9 ?c9 ?k9 ?a10 ?l10 ?c10 ?k10 ?a11 ?l11 ?c11 ?k11 ?a12 ?l12 ?c12 ?k12 ?a13 ?l13 ?c13 ?k13 ?a14 ?l14 ?c14 ?k14 ?a15 ?l15 ?c15 ?k15 ?a16 ?l16 ?c16 ?k16 ?a17 ?l17 ?c17 ?k17 ?a18 ?l18 ?c18 ?k18 ?a19 ?l19 ?c19 ?k19 ?a20 ?l20 ?c20 ?k20 ?a21 ?l21 ?c21 ?k21 ?a22 ?l22 ?c22 ?k22 ?a23 ?l23 ?c23 ?k23 ?a24 ?l24 ?c24 ?k24 ?a25 ?l25 ?c25 ?k25 ?a26 ?l26 ?c26 ?k26 ?cn0 ?cn1 ?cn2 ?cn3 ?cn4 ?aB ?tabB ?aK ?tabK ?z0 ?z1 ?z2 ?z3 ?z4 ?z5 ?z6 ?z7 ?z8 ?z9 ?z10
    (case aT => k_is)
    (case tab => first | rfl | decide | decide +kernel)
    (case a0 => k_is); (case l0 => k_is); (case c0 => k_is); (case k0 => k_is)
    (case a1 => k_is); (case l1 => k_is); (case c1 => k_is); (case k1 => k_is)
    (case a2 => k_is); (case l2 => k_is); (case c2 => k_is); (case k2 => k_is)
    (case a3 => k_is); (case l3 => k_is); (case c3 => k_is); (case k3 => k_is)
    (case a4 => k_is); (case l4 => k_is); (case c4 => k_is); (case k4 => k_is)
    (case a5 => k_is); (case l5 => k_is); (case c5 => k_is); (case k5 => k_is)
    (case a6 => k_is); (case l6 => k_is); (case c6 => k_is); (case k6 => k_is)
    (case a7 => k_is); (case l7 => k_is); (case c7 => k_is); (case k7 => k_is)
    (case a8 => k_is); (case l8 => k_is); (case c8 => k_is); (case k8 => k_is)
    (case a9 => k_is); (case l9 => k_is); (case c9 => k_is); (case k9 => k_is)
    (case a10 => k_is); (case l10 => k_is); (case c10 => k_is); (case k10 => k_is)
    (case a11 => k_is); (case l11 => k_is); (case c11 => k_is); (case k11 => k_is)
    (case a12 => k_is); (case l12 => k_is); (case c12 => k_is); (case k12 => k_is)
    (case a13 => k_is); (case l13 => k_is); (case c13 => k_is); (case k13 => k_is)
    (case a14 => k_is); (case l14 => k_is); (case c14 => k_is); (case k14 => k_is)
    (case a15 => k_is); (case l15 => k_is); (case c15 => k_is); (case k15 => k_is)
    (case a16 => k_is); (case l16 => k_is); (case c16 => k_is); (case k16 => k_is)
    (case a17 => k_is); (case l17 => k_is); (case c17 => k_is); (case k17 => k_is)
    (case a18 => k_is); (case l18 => k_is); (case c18 => k_is); (case k18 => k_is)
    (case a19 => k_is); (case l19 => k_is); (case c19 => k_is); (case k19 => k_is)
    (case a20 => k_is); (case l20 => k_is); (case c20 => k_is); (case k20 => k_is)
    (case a21 => k_is); (case l21 => k_is); (case c21 => k_is); (case k21 => k_is)
    (case a22 => k_is); (case l22 => k_is); (case c22 => k_is); (case k22 => k_is)
    (case a23 => k_is); (case l23 => k_is); (case c23 => k_is); (case k23 => k_is)
    (case a24 => k_is); (case l24 => k_is); (case c24 => k_is); (case k24 => k_is)
    (case a25 => k_is); (case l25 => k_is); (case c25 => k_is); (case k25 => k_is)
    (case a26 => k_is); (case l26 => k_is); (case c26 => k_is); (case k26 => k_is)
    (case cn0 => k_is)
    (case cn1 => k_is)
    (case cn2 => k_is)
    (case cn3 => k_is)
    (case cn4 => k_is)
    (case aB => k_is)
    (case tabB => (first | rfl | decide | decide +kernel))
    (case aK => k_is)
    (case tabK => (first | rfl | decide | decide +kernel))
    (case z0 => k_is)
    (case z1 => k_is)
    (case z2 => k_is)
    (case z3 => k_is)
    (case z4 => k_is)
    (case z5 => k_is)
    (case z6 => k_is)
    (case z7 => k_is)
    (case z8 => k_is)
    (case z9 => k_is)
    (case z10 => k_is)
